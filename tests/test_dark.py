import itertools
import random
import unittest

from helper import (LAMPS, MOST, NO_LAMP_LISTS, SHORT_TIMES, arguments_of, cue, least_weight, no_lists, on, plain,
                    plain_looks, refused, same_frame, some_list)
from lampcues.cues import Cue, Part, alike
from lampcues.dark import marks, moved_dark, wishes
from lampcues.errors import MovesBright, NoList, NoName
from lampcues.fewest import fewest, weight
from lampcues.running import Run

BRIGHT = ("spot", "bright")
PAN = ("spot", "pan")
TILT = ("spot", "tilt")
WASH = ("wash", "bright")
RED = ("wash", "red")


def is_seen(look, lamp):
    return look.get((lamp, "bright"), 0) > 0


def stance(look, lamp):
    return {slot: worth for slot, worth in look.items() if slot[0] == lamp and slot[1] != "bright"}


def pairs(looks, lamp):
    """The places of a lamp's cues that are not dark, each with the one ahead of it; -1 is the stand."""
    seen = [-1] + [place for place, look in enumerate(looks) if is_seen(look, lamp)]
    return list(zip(seen, seen[1:]))


def unlike(looks, lamp, ahead, place):
    return (stance(looks[ahead], lamp) if ahead >= 0 else {}) != stance(looks[place], lamp)


def plain_wishes(cues, lamps):
    """[31] and [32], by all cues that lie between: the wishes, and the first refusal's (lamp, number), or None."""
    looks = plain_looks(cues)
    found = []
    for lamp in sorted(set(lamps)):
        for ahead, place in pairs(looks, lamp):
            if unlike(looks, lamp, ahead, place):
                between = [at for at in range(len(cues)) if ahead < at < place]
                may = [at for at in between
                       if not is_seen(looks[at], lamp) and (at == 0 or not is_seen(looks[at - 1], lamp))]
                if not may:
                    return None, (lamp, cues[place].number)
                found.append((cues[may[0]].number, cues[may[-1]].number, lamp, cues[place].number))
    return found, None


def plainly_moved(cues, lamps, some, numbers):
    """The looks of [34]."""
    looks = plain_looks(cues)
    new = [dict(look) for look in looks]
    for lamp in set(lamps):
        for place, look in enumerate(looks):
            if not is_seen(look, lamp):
                ahead = [at for at in range(place) if is_seen(looks[at], lamp)]
                behind = [at for at in range(place, len(looks)) if is_seen(looks[at], lamp)]
                stands = stance(looks[ahead[-1]], lamp) if ahead else {}
                for wish in some:
                    if behind and wish[2:] == (lamp, cues[behind[0]].number):
                        least = min(number for number in numbers if wish[0] <= number <= wish[1])
                        if cues[place].number >= least:
                            stands = stance(looks[behind[0]], lamp)
                for slot in stance(look, lamp):
                    new[place].pop(slot, None)
                new[place].update(stands)
    return new


def least_marks(some):
    """How few of the last numbers may serve all wishes, by all choices."""
    lasts = sorted({wish[1] for wish in some})
    for count in range(len(lasts) + 1):
        for numbers in itertools.combinations(lasts, count):
            if all(any(wish[0] <= number <= wish[1] for number in numbers) for wish in some):
                return count


def seen_at(places, count, stances, number=1):
    """Cues of one lamp, bright at these places with these pans, dark at all others."""
    cues = []
    for place in range(count):
        look = {BRIGHT: 9, PAN: stances[places.index(place)]} if place in places else {BRIGHT: 0}
        cues.append(on(number + place, look))
    return cues


def stages(chance, count):
    """What a lamp shows, cue by cue: seen for a while, dark for a while, and other stances mostly behind two darks."""
    shows = []
    stands = (chance.randrange(3), chance.randrange(3)) if chance.randrange(5) == 0 else (0, 0)
    dark = chance.randrange(4)
    if dark > 0:
        stands = (chance.randrange(3), chance.randrange(3))
    while len(shows) < count:
        for place in range(dark):
            shows.append((0, chance.randrange(3), chance.randrange(3)))
        for place in range(chance.randrange(1, 3)):
            shows.append((chance.choice((1, 6, 500)),) + stands)
        dark = chance.randrange(5)
        if dark > 1 or chance.randrange(40) == 0:
            stands = (chance.randrange(3), chance.randrange(3))
    return shows[:count]


def some_stages(seed, spans=SHORT_TIMES):
    """A list with lamps that are dark now and then, told on, alone and by stops; without follow-ons."""
    chance = random.Random(seed)
    count = chance.randrange(1, 10)
    numbers = sorted(chance.sample(range(1, 40), count))
    shows = {lamp: stages(chance, count) for lamp in LAMPS}
    cues = []
    for place, number in enumerate(numbers):
        parts = []
        for lamp in LAMPS:
            told = dict(zip(((lamp, "bright"), (lamp, "pan"), (lamp, "tilt")), shows[lamp][place]))
            alone = {slot: worth for slot, worth in told.items() if chance.randrange(3) == 0}
            tells = {slot: worth if slot not in alone else 7 for slot, worth in told.items()}
            parts.append(Part(tells, alone, *[chance.choice(spans) for span in range(3)]))
        cues.append(Cue(number, parts, chance.randrange(5) == 0))
    return cues


class Wishes(unittest.TestCase):
    def test_none(self):
        self.assertEqual(wishes([], ["spot"]), [])
        self.assertEqual(wishes([], []), [])
        self.assertEqual(wishes([cue(1), cue(2)], ["spot"]), [])
        self.assertEqual(wishes([on(1, {BRIGHT: 9})], ["spot"]), [])

    def test_a_lamp_that_is_not_told_has_none(self):
        cues = seen_at([0, 4], 5, [0, 5]) + [on(6, {PAN: 7}), on(7, {PAN: 8})]
        self.assertEqual(wishes(cues, []), [])
        self.assertEqual(wishes(cues, ["wash", "spo", "spots"]), [])

    def test_a_lamp_that_is_dark_has_none(self):
        self.assertEqual(wishes([on(1, {PAN: 5}), on(2, {PAN: 6, BRIGHT: 0})], ["spot"]), [])

    def test_alike_stances_have_none(self):
        self.assertEqual(wishes(seen_at([0, 1, 3, 6], 8, [0, 0, 0, 0]), ["spot"]), [])
        self.assertEqual(wishes(seen_at([3, 4, 6, 9], 10, [5, 5, 5, 5]), ["spot"]), [(1, 3, "spot", 4)])

    def test_dark_at_the_stand(self):
        self.assertEqual(wishes(seen_at([1], 2, [5]), ["spot"]), [(1, 1, "spot", 2)])
        self.assertEqual(wishes(seen_at([2], 3, [5]), ["spot"]), [(1, 2, "spot", 3)])
        self.assertEqual(wishes(seen_at([4], 6, [5]), ["spot"]), [(1, 4, "spot", 5)])

    def test_first_seen_at_the_stand_s_stance(self):
        self.assertEqual(wishes(seen_at([0], 1, [0]), ["spot"]), [])
        self.assertEqual(wishes(seen_at([3], 4, [0]), ["spot"]), [])

    def test_seen_at_the_first_cue(self):
        fault = refused(self, MovesBright, wishes, seen_at([0], 1, [5]), ["spot"])
        self.assertEqual((fault.lamp, fault.number), ("spot", 1))

    def test_neighbours(self):
        fault = refused(self, MovesBright, wishes, seen_at([0, 1], 2, [0, 5]), ["spot"])
        self.assertEqual((fault.lamp, fault.number), ("spot", 2))

    def test_one_dark_cue_between(self):
        fault = refused(self, MovesBright, wishes, seen_at([0, 2], 3, [0, 5]), ["spot"])
        self.assertEqual((fault.lamp, fault.number), ("spot", 3))

    def test_several_dark_cues_between(self):
        self.assertEqual(wishes(seen_at([0, 3], 4, [0, 5]), ["spot"]), [(3, 3, "spot", 4)])
        self.assertEqual(wishes(seen_at([0, 4], 5, [0, 5]), ["spot"]), [(3, 4, "spot", 5)])
        self.assertEqual(wishes(seen_at([0, 9], 12, [0, 5], 11), ["spot"]), [(13, 19, "spot", 20)])

    def test_numbers_that_lie_apart(self):
        cues = [on(10, {BRIGHT: 1}), on(25, {BRIGHT: 0}), cue(400), cue(MOST - 1), on(MOST, {BRIGHT: 1, PAN: 2})]
        self.assertEqual(wishes(cues, ["spot"]), [(400, MOST - 1, "spot", MOST)])

    def test_one_behind_the_other(self):
        cues = seen_at([2, 5, 6, 10], 12, [5, 6, 6, 5])
        self.assertEqual(wishes(cues, ["spot"]), [(1, 2, "spot", 3), (5, 5, "spot", 6), (9, 10, "spot", 11)])

    def test_the_later_one_s_number_is_told(self):
        fault = refused(self, MovesBright, wishes, seen_at([2, 4, 8], 9, [5, 6, 7], 100), ["spot"])
        self.assertEqual((fault.lamp, fault.number), ("spot", 104))

    def test_stances_of_dark_cues_are_not_seen(self):
        cues = [on(1, {BRIGHT: 1, PAN: 0}), on(2, {BRIGHT: 0, PAN: 7}), on(3, {PAN: 8}), on(4, {BRIGHT: 1, PAN: 0})]
        self.assertEqual(wishes(cues, ["spot"]), [])

    def test_a_stance_is_all_sides_but_bright(self):
        for side in ("blue", "green", "pan", "red", "tilt"):
            cues = [on(1, {BRIGHT: 1}), on(2, {BRIGHT: 0}), cue(3), on(4, {BRIGHT: 1, ("spot", side): 1})]
            self.assertEqual(wishes(cues, ["spot"]), [(3, 3, "spot", 4)])
        cues = [on(1, {BRIGHT: 1}), on(2, {BRIGHT: 500}), on(3, {BRIGHT: 7, RED: 5})]
        self.assertEqual(wishes(cues, ["spot"]), [])

    def test_by_what_is_shown(self):
        cues = [Cue(1, [Part({BRIGHT: 1}, {BRIGHT: 0})]), on(2, {PAN: 4})]
        self.assertEqual(wishes(cues, ["spot"]), [(1, 1, "spot", 2)])
        cues = [on(1, {BRIGHT: 1}), Cue(2, [Part({}, {BRIGHT: 0})]), Cue(3, [Part({PAN: 4}, {BRIGHT: 0})]), cue(4)]
        self.assertEqual(wishes(cues, ["spot"]), [(3, 3, "spot", 4)])
        cues = [on(1, {BRIGHT: 1}), Cue(2, [Part({}, {})], True), cue(3), on(4, {BRIGHT: 1, PAN: 2})]
        self.assertEqual(wishes(cues, ["spot"]), [(3, 3, "spot", 4)])
        cues = [Cue(1, [Part({BRIGHT: 1, PAN: 1}, {PAN: 0})]), Cue(2, [Part({}, {PAN: 0}), Part({}, {})])]
        self.assertEqual(wishes(cues, ["spot"]), [])

    def test_lamp_by_lamp_sorted_each_once(self):
        tells = {("z", "bright"): 1, ("z", "pan"): 1, ("b", "bright"): 1, ("b", "red"): 1, ("aa", "bright"): 1,
                 ("aa", "tilt"): 3, ("a", "bright"): 1}
        cues = [cue(1), on(2, tells), on(3, {slot: 0 for slot in tells}), cue(4), on(5, {**tells, ("a", "pan"): 4})]
        self.assertEqual(wishes(cues, ["z", "a", "b", "z", "aa", "a", "b"]),
                         [(4, 4, "a", 5), (1, 1, "aa", 2), (1, 1, "b", 2), (1, 1, "z", 2)])
        self.assertEqual(wishes(cues, ["z"]), [(1, 1, "z", 2)])

    def test_the_first_refusal_in_their_order(self):
        cues = [on(1, {("b", "bright"): 1, ("b", "pan"): 1}), on(5, {("a", "bright"): 1}), on(8, {("a", "pan"): 1}),
                on(9, {("a", "pan"): 2, ("b", "pan"): 2})]
        for lamps, lamp, number in ((["a", "b"], "a", 8), (["b", "a"], "a", 8), (["b"], "b", 1), (["c", "b"], "b", 1),
                                    (["b", "b", "a", "c"], "a", 8)):
            for call in (wishes, moved_dark):
                fault = refused(self, MovesBright, call, cues, lamps)
                self.assertEqual((fault.lamp, fault.number), (lamp, number))

    def test_kinds(self):
        some = wishes(seen_at([1], 2, [5]), ["spot"])
        self.assertIs(type(some), list)
        self.assertEqual([type(one) for one in some], [tuple])

    def test_drawn(self):
        counts = [0, 0]
        for seed in range(600):
            chance = random.Random(seed + 70000)
            cues = some_stages(seed) if seed % 3 else some_list(seed)
            lamps = chance.choices(LAMPS + ("never",), k=chance.randrange(5))
            some, refusal = plain_wishes(cues, lamps)
            if refusal is None:
                self.assertEqual(wishes(cues, lamps), some)
                counts[0] += len(some) > 0
            else:
                fault = refused(self, MovesBright, wishes, cues, lamps)
                self.assertEqual((fault.lamp, fault.number), refusal)
                fault = refused(self, MovesBright, moved_dark, cues, lamps)
                self.assertEqual((fault.lamp, fault.number), refusal)
                counts[1] += 1
        self.assertGreater(min(counts), 60)


class Marks(unittest.TestCase):
    def held(self, some):
        numbers, apart = marks(some)
        self.assertEqual(numbers, sorted(set(numbers)))
        self.assertEqual([number for number in numbers if number not in [wish[1] for wish in some]], [])
        for wish in some:
            self.assertTrue(any(wish[0] <= number <= wish[1] for number in numbers), (some, numbers))
        self.assertEqual(len(apart), len(numbers))
        self.assertEqual([wish for wish in apart if wish not in some], [])
        for one, other in itertools.combinations(apart, 2):
            self.assertTrue(one[1] < other[0] or other[1] < one[0], (some, apart))
        return numbers

    def test_none(self):
        self.assertEqual(marks([]), ([], []))

    def test_one(self):
        self.assertEqual(marks([(3, 7, "a", 9)]), ([7], [(3, 7, "a", 9)]))
        self.assertEqual(marks([(3, 3, "a", 4)]), ([3], [(3, 3, "a", 4)]))

    def test_one_mark_for_several(self):
        self.assertEqual(self.held([(3, 7, "a", 9), (5, 9, "b", 10), (1, 6, "c", 20)]), [6])
        self.assertEqual(self.held([(3, 7, "a", 9), (7, 9, "b", 10)]), [7])
        self.assertEqual(self.held([(7, 9, "a", 10), (7, 7, "b", 10)]), [7])

    def test_apart(self):
        some = [(3, 7, "a", 9), (8, 9, "b", 10)]
        self.assertEqual(marks(some), ([7, 9], some))

    def test_in_any_order_and_alike_ones(self):
        some = [(1, 4, "a", 5), (3, 6, "b", 7), (5, 8, "a", 9), (7, 10, "c", 11), (1, 4, "a", 5)]
        for way in itertools.permutations(some):
            self.assertEqual(len(self.held(list(way))), 2)
        self.assertEqual(self.held([(2, 5, "a", 6)] * 4), [5])

    def test_within_one_another(self):
        self.assertEqual(self.held([(1, 100, "a", 101), (10, 20, "a", 21), (30, 40, "b", 41)]), [20, 40])

    def test_greatest_numbers(self):
        most = 10 ** 10
        self.assertEqual(self.held([(1, most, "a", most), (most, most, "b", most), (1, 1, "c", 2)]), [1, most])
        self.assertEqual(self.held([(most - 1, most, "a", most), (most - 1, most - 1, "b", most)]), [most - 1])

    def test_one_lamp_more_wishes_for_one_number(self):
        self.assertEqual(self.held([(1, 2, "a", 9), (4, 5, "a", 9), (2, 4, "abcdefgh", 9)]), [2, 5])

    def test_against_all_choices(self):
        for seed in range(1500):
            chance = random.Random(seed)
            some = []
            for place in range(chance.randrange(9)):
                first = chance.randrange(1, 14)
                wish = (first, first + chance.choice((0, 0, 1, 2, 3, 6)), chance.choice("abc"), chance.randrange(1, 30))
                some.append(wish)
                if chance.randrange(6) == 0:
                    some.append(wish)
            self.assertEqual(len(self.held(some)), least_marks(some), some)

    def test_the_same_ones_for_the_same_list(self):
        for seed in range(100):
            chance = random.Random(seed)
            some = [(first, first + chance.randrange(4), "a", 50) for first in chance.choices(range(1, 20), k=8)]
            self.assertEqual(marks(some), marks([tuple(list(wish)) for wish in some]))

    def test_kinds(self):
        told = marks([(1, 2, "a", 3)])
        self.assertIs(type(told), tuple)
        self.assertEqual([type(one) for one in told], [list, list])
        self.assertEqual([type(one) for one in told[1]], [tuple])

    def test_of_lists(self):
        for seed in range(200):
            cues = some_stages(seed)
            some, refusal = plain_wishes(cues, LAMPS)
            if refusal is None:
                self.assertEqual(len(self.held(some)), least_marks(some))


class MovedDark(unittest.TestCase):
    def moved(self, cues, lamps):
        made = moved_dark(cues, lamps)
        return plain_looks(made)

    def test_no_lamps(self):
        for cues in ([], [cue(1)], seen_at([0, 1, 2], 3, [3, 2, 1])):
            made = moved_dark(cues, [])
            self.assertEqual(plain_looks(made), plain_looks(cues))
            self.assertEqual(weight(made), weight(fewest(cues)))

    def test_at_the_only_cue_that_may_be(self):
        cues = [on(1, {BRIGHT: 1}), on(2, {BRIGHT: 0}), cue(3), on(4, {BRIGHT: 1, PAN: 5})]
        self.assertEqual(self.moved(cues, ["spot"]), [{BRIGHT: 1}, {}, {PAN: 5}, {BRIGHT: 1, PAN: 5}])

    def test_from_the_mark_on(self):
        cues = seen_at([0, 5], 6, [0, 5])
        self.assertEqual(marks(wishes(cues, ["spot"]))[0], [5])
        self.assertEqual(self.moved(cues, ["spot"]), [{BRIGHT: 9}, {}, {}, {}, {PAN: 5}, {BRIGHT: 9, PAN: 5}])

    def test_the_least_mark_that_serves_it(self):
        cues = [on(1, {BRIGHT: 0}), on(2, {WASH: 0}), on(3, {WASH: 1, RED: 7}), on(4, {WASH: 0}), cue(5),
                on(6, {BRIGHT: 1, PAN: 5, WASH: 1, RED: 8})]
        some = wishes(cues, ["wash", "spot"])
        self.assertEqual(some, [(1, 5, "spot", 6), (1, 2, "wash", 3), (5, 5, "wash", 6)])
        self.assertEqual(marks(some)[0], [2, 5])
        self.assertEqual(self.moved(cues, ["wash", "spot"]),
                         [{}, {PAN: 5, RED: 7}, {PAN: 5, WASH: 1, RED: 7}, {PAN: 5, RED: 7}, {PAN: 5, RED: 8},
                          {BRIGHT: 1, PAN: 5, WASH: 1, RED: 8}])

    def test_from_the_stand_on(self):
        cues = [cue(1), cue(2), on(3, {BRIGHT: 1, PAN: 5, TILT: 6})]
        self.assertEqual(self.moved(cues, ["spot"]), [{}, {PAN: 5, TILT: 6}, {BRIGHT: 1, PAN: 5, TILT: 6}])

    def test_dark_ones_stay_as_seen_last(self):
        cues = [on(1, {PAN: 3}), on(2, {PAN: 4, BRIGHT: 1}), on(3, {BRIGHT: 0, PAN: 5}), on(4, {PAN: 6, TILT: 7})]
        self.assertEqual(self.moved(cues, ["spot"]), [{PAN: 4}, {PAN: 4, BRIGHT: 1}, {PAN: 4}, {PAN: 4}])

    def test_alike_behind_the_dark_there_is_no_move(self):
        cues = [on(1, {BRIGHT: 1}), on(2, {BRIGHT: 0, PAN: 5}), on(3, {PAN: 6}), on(4, {PAN: 0, BRIGHT: 1})]
        self.assertEqual(self.moved(cues, ["spot"]), [{BRIGHT: 1}, {}, {}, {BRIGHT: 1}])

    def test_a_lamp_that_is_never_seen_stays_at_0(self):
        cues = [on(1, {PAN: 5}), on(2, {PAN: 6, RED: 4, WASH: 3})]
        self.assertEqual(self.moved(cues, ["spot"]), [{}, {RED: 4, WASH: 3}])

    def test_other_lamps_stay(self):
        cues = [on(1, {PAN: 5, RED: 1, WASH: 1}), on(2, {PAN: 6, RED: 2}), on(3, {BRIGHT: 1, PAN: 7, RED: 3})]
        self.assertEqual(self.moved(cues, ["spot"]), [{RED: 1, WASH: 1}, {PAN: 7, RED: 2, WASH: 1},
                                                      {BRIGHT: 1, PAN: 7, RED: 3, WASH: 1}])

    def test_in_the_part_that_told_it_with_the_same_frame(self):
        cues = [Cue(2, [Part({}, {}, 1, 2, 3), Part({PAN: 4}, {}, 4, 5, 6)], True, 9),
                Cue(5, [Part({PAN: 7}, {}, 7, 8, 9), Part({BRIGHT: 1}, {}, 10, 11, 12)], False, 0)]
        made = moved_dark(cues, ["spot"])
        self.assertEqual(plain(made), [
            (2, [({}, {}, 1, 2, 3), ({PAN: 7}, {}, 4, 5, 6)], False, 9),
            (5, [({}, {}, 7, 8, 9), (made[1].parts[1].tells, made[1].parts[1].alone, 10, 11, 12)], False, 0)])
        self.assertEqual({**made[1].parts[1].tells, **made[1].parts[1].alone}, {BRIGHT: 1})

    def test_drawn(self):
        moved = 0
        for seed in range(500):
            chance = random.Random(seed + 71000)
            cues = some_stages(seed)
            lamps = chance.choices(LAMPS + ("never",), k=chance.randrange(5))
            some, refusal = plain_wishes(cues, lamps)
            if refusal is None:
                made = moved_dark(cues, lamps)
                looks = plainly_moved(cues, lamps, some, marks(some)[0])
                self.assertEqual(plain_looks(made), looks, (plain(cues), lamps))
                if len(looks) < 6:
                    self.assertEqual(weight(made), least_weight(looks))
                self.assertEqual(weight(fewest(made)), weight(made))
                same_frame(self, cues, made)
                moved += looks != plain_looks(cues)
                # Moved once, there is nothing left to move but at the same marks.
                self.assertEqual(wishes(made, lamps), some)
        self.assertGreater(moved, 150)


def moves_seen(cues, lamps, chance, bottom):
    """Whether a lamp moves while it is seen, gone through with a go for each cue at a moment at which all is still."""
    run = Run(cues)
    top = 0
    before = run.at(0)
    found = []
    for place in range(len(cues) + 1):
        end = None
        while end is None or top < end:
            look = run.at(top, bottom)
            for lamp in lamps:
                if stance(look, lamp) != stance(before, lamp) and (is_seen(look, lamp) or is_seen(before, lamp)):
                    found.append((lamp, top))
            before = look
            # Still at any moment, it may be awaited somewhat longer, and goes come at whole ticks.
            if end is None and run.is_still(top, bottom):
                end = top + (-top) % bottom + bottom * chance.choice((0, 0, 1, 3))
            if end is None or top < end:
                top += 1
        if place < len(cues):
            run.go(top // bottom)
    return found


class GoneThrough(unittest.TestCase):
    """[35], moment by moment."""

    def test_no_lamp_moves_while_it_is_seen(self):
        counts = [0, 0]
        for seed in range(260):
            chance = random.Random(seed + 72000)
            cues = some_stages(seed)
            lamps = chance.sample(LAMPS, chance.randrange(1, 4))
            if plain_wishes(cues, lamps)[1] is None:
                bottom = chance.choice((1, 1, 2, 3))
                made = moved_dark(cues, lamps)
                self.assertEqual(moves_seen(made, lamps, chance, bottom), [], (plain(cues), lamps))
                counts[0] += 1
                counts[1] += moves_seen(cues, lamps, chance, bottom) != []
        # Else the lists would have been well before.
        self.assertGreater(counts[0], 100)
        self.assertGreater(counts[1], 50)

    def test_waits_and_slow_fades(self):
        cues = [Cue(1, [Part({BRIGHT: 3}, {}, 5, 5, 0)]), Cue(2, [Part({BRIGHT: 0, PAN: 4}, {}, 3, 40, 20)]),
                Cue(3, [Part({PAN: 6}, {}, 30, 30, 30)]), Cue(4, [Part({BRIGHT: 3}, {}, 2, 2, 0), Part({PAN: 9}, {})])]
        chance = random.Random(1)
        self.assertNotEqual(moves_seen(cues, ["spot"], chance, 2), [])
        self.assertEqual(moves_seen(moved_dark(cues, ["spot"]), ["spot"], chance, 2), [])

    def test_other_lamps_may_move_seen(self):
        cues = [on(1, {WASH: 1, RED: 3}), on(2, {RED: 4}), on(3, {BRIGHT: 1, PAN: 4, RED: 5})]
        made = moved_dark(cues, ["spot"])
        self.assertEqual(moves_seen(made, ["spot"], random.Random(1), 1), [])
        self.assertNotEqual(moves_seen(made, ["wash"], random.Random(1), 1), [])


class Refusals(unittest.TestCase):
    def test_no_lists(self):
        for thing in no_lists():
            for call in (wishes, moved_dark):
                refused(self, NoList, call, thing, ["spot"])
                refused(self, NoList, call, thing, [])

    def test_no_lamps(self):
        for thing in NO_LAMP_LISTS:
            for call in (wishes, moved_dark):
                refused(self, NoName, call, [cue(1)], thing)
                refused(self, NoName, call, [], thing)

    def test_in_their_order(self):
        seen = seen_at([0], 1, [5])
        for call in (wishes, moved_dark):
            refused(self, NoList, call, None, None)
            refused(self, NoList, call, seen + seen, ["Spot"])
            refused(self, NoName, call, seen, ["spot", "Spot"])
            refused(self, NoName, call, seen, ("spot",))
            refused(self, MovesBright, call, seen, ["spot"])


class HandedInAndTold(unittest.TestCase):
    def test_arguments(self):
        self.assertEqual(arguments_of(wishes), ["cues", "lamps"])
        self.assertEqual(arguments_of(marks), ["some"])
        self.assertEqual(arguments_of(moved_dark), ["cues", "lamps"])
        cues = seen_at([1], 2, [5])
        self.assertEqual(wishes(lamps=["spot"], cues=cues), [(1, 1, "spot", 2)])
        self.assertEqual(marks(some=[]), ([], []))
        self.assertTrue(alike(moved_dark(lamps=["spot"], cues=cues), moved_dark(cues, ["spot"])))

    def test_what_is_handed_in_stays(self):
        cues = seen_at([1, 4], 6, [5, 6])
        lamps = ["wash", "spot", "spot", "a"]
        handed = list(cues), list(lamps), plain(cues)
        some = wishes(cues, lamps)[::-1] * 2
        before = list(some)
        marks(some)
        moved_dark(cues, lamps)
        seen = seen_at([0], 1, [5])
        refused(self, MovesBright, moved_dark, seen, lamps)
        refused(self, MovesBright, wishes, seen, lamps)
        self.assertEqual((cues, lamps, plain(cues)), handed)
        self.assertEqual(some, before)
        self.assertEqual(plain(seen), plain(seen_at([0], 1, [5])))

    def test_what_is_handed_in_is_not_kept(self):
        cues = seen_at([1, 4], 6, [5, 6])
        lamps = ["spot"]
        some = wishes(cues, lamps)
        found = marks(some)
        made = moved_dark(cues, lamps)
        rows = plain(made)
        kept = list(some), (list(found[0]), list(found[1]))
        cues.clear()
        lamps.clear()
        self.assertEqual((some, found), kept)
        some.clear()
        self.assertEqual(found, kept[1])
        self.assertEqual(plain(made), rows)

    def test_what_is_told_is_the_asker_s_own(self):
        cues = seen_at([1, 4], 6, [5, 6])
        some = wishes(cues, ["spot"])
        told = list(some)
        some.clear()
        self.assertEqual(wishes(cues, ["spot"]), told)
        found = marks(told)
        kept = list(found[0]), list(found[1])
        found[0].clear()
        found[1].clear()
        self.assertEqual(marks(told), kept)
        made = moved_dark(cues, ["spot"])
        rows = plain(made)
        made.clear()
        self.assertEqual(plain(moved_dark(cues, ["spot"])), rows)
        self.assertIs(type(moved_dark([], [])), list)

    def test_as_much_as_may_be(self):
        lamps = ["l" + sign for sign in "abcdefghijklmnopqrst"]
        cues = []
        for place in range(100):
            tells = {}
            for at, lamp in enumerate(lamps):
                tells[(lamp, "bright")] = int((place + at) % 5 == 4)
                tells.update({(lamp, side): place // 5 + 1 for side in ("pan", "tilt", "red", "blue")})
            cues.append(on(place + 1, tells))
        some = wishes(cues, lamps[::5])
        numbers = marks(some)[0]
        self.assertEqual(plain_wishes(cues, lamps[::5]), (some, None))
        looks = [dict(look) for look in plain_looks(moved_dark(cues, lamps[::5]))]
        self.assertEqual(looks, plainly_moved(cues, lamps[::5], some, numbers))


if __name__ == "__main__":
    unittest.main()
