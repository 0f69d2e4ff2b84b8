import itertools
import random
import unittest

from helper import (DICTS, LISTS, MOST, ODD, SIDES, TEXTS, TUPLES, arguments_of, cue, least_tellings, least_weight,
                    no_lists, on, plain, plain_looks, refused, same_frame, some_list)
from lampcues.cues import Cue, Part, alike
from lampcues.errors import NoList
from lampcues.fewest import fewest, showing, weight
from lampcues.looks import shown

PAN = ("spot", "pan")
TILT = ("spot", "tilt")
RED = ("wash", "red")
BLUE = ("wash", "blue")


def alone(number, tells):
    return Cue(number, [Part({}, tells)])


def stop(number, tells):
    return Cue(number, [Part(tells, {})], True)


def bare(count):
    return [cue(place + 1) for place in range(count)]


def plain_weight(cues):
    rows = plain(cues)
    return sum(row[2] + sum(len(part[0]) + len(part[1]) for part in row[1]) for row in rows)


def all_tellings(slots, worths):
    """All that one cue may tell: whether it stops, and for each slot the worths on and alone (None: not told)."""
    ways = list(itertools.product((None,) + worths, (None,) + worths))
    for stops in (False, True):
        for told in itertools.product(ways, repeat=len(slots)):
            count = stops + sum(worth is not None for way in told for worth in way)
            yield stops, told, count


def all_weights(count, slots, worths):
    """For all looks of so many cues the least weight of all lists that show them: from (looks) to weights.

    Lists that show the same so far and carry the same on go on alike, so of these the lightest one is kept.
    """
    lists = {((), (0,) * len(slots)): 0}
    tellings = list(all_tellings(slots, worths))
    for place in range(count):
        longer = {}
        for (looks, carried), before in lists.items():
            for stops, told, more in tellings:
                base = (0,) * len(slots) if stops else carried
                on_now = tuple(way[0] if way[0] is not None else worth for way, worth in zip(told, base))
                look = tuple(way[1] if way[1] is not None else worth for way, worth in zip(told, on_now))
                state = (looks + (look,), on_now)
                longer[state] = min(before + more, longer.get(state, before + more))
        lists = longer
    weights = {}
    for (looks, carried), least in lists.items():
        weights[looks] = min(least, weights.get(looks, least))
    return weights


def some_looks(chance, count):
    """Looks in which slots often come back to what they were, or go all at once."""
    slots = chance.sample([("a", "pan"), ("a", "red"), PAN, TILT, RED, BLUE], chance.randrange(1, 7))
    worths = chance.choice(((0, 1), (0, 1, 2), (1, 2), (0, 0, 5), (0, 1, 2, 3, MOST)))
    looks = []
    for place in range(count):
        look = {slot: chance.choice(worths) for slot in slots if chance.randrange(6) > 0}
        if looks and chance.randrange(2) == 0:
            look = dict(chance.choice((looks[-1], looks[-1], looks[0])))
        looks.append({slot: worth for slot, worth in look.items() if worth > 0 and chance.randrange(15) > 0})
        if chance.randrange(4) == 0:
            looks[-1] = {}
    return looks


class Weights(unittest.TestCase):
    def test_no_tellings(self):
        self.assertEqual(weight([]), 0)
        self.assertEqual(weight(bare(1)), 0)
        self.assertEqual(weight([Cue(1, [Part({}, {}, 1, 2, 3)] * 9, False, 5), cue(MOST)]), 0)

    def test_each_slot_told_on_counts_one(self):
        self.assertEqual(weight([on(1, {PAN: 5})]), 1)
        self.assertEqual(weight([on(1, {PAN: 5, TILT: 5, RED: MOST})]), 3)
        self.assertEqual(weight([on(1, {PAN: 5}), on(2, {PAN: 5})]), 2)

    def test_each_slot_told_alone_counts_one(self):
        self.assertEqual(weight([alone(1, {PAN: 5})]), 1)
        self.assertEqual(weight([alone(1, {PAN: 5, RED: 6}), alone(2, {PAN: 5})]), 3)

    def test_what_is_told_at_0_counts(self):
        self.assertEqual(weight([on(1, {PAN: 0})]), 1)
        self.assertEqual(weight([alone(1, {PAN: 0})]), 1)

    def test_both_of_one_slot_count_two(self):
        self.assertEqual(weight([Cue(1, [Part({PAN: 5}, {PAN: 6})])]), 2)
        self.assertEqual(weight([Cue(1, [Part({PAN: 5}, {PAN: 5})])]), 2)

    def test_each_cue_that_stops_counts_one(self):
        self.assertEqual(weight([stop(1, {})]), 1)
        self.assertEqual(weight([stop(1, {PAN: 1}), cue(2), stop(3, {}), stop(7, {})]), 4)

    def test_each_part_counts(self):
        parts = [Part({PAN: 1}, {TILT: 1}), Part({}, {}), Part({RED: 1}, {RED: 1, BLUE: 0})]
        self.assertEqual(weight([Cue(1, parts)]), 5)
        self.assertEqual(weight([Cue(1, parts, True, 7), Cue(2, parts)]), 11)

    def test_a_whole_number(self):
        self.assertIs(type(weight([])), int)
        self.assertIs(type(weight([stop(1, {})])), int)

    def test_drawn(self):
        for seed in range(300):
            cues = some_list(seed)
            self.assertEqual(weight(cues), plain_weight(cues))


class Shows(unittest.TestCase):
    """One by one, what a list made for looks has to be."""

    def made(self, looks, least, cues=None):
        cues = bare(len(looks)) if cues is None else cues
        made = showing(cues, looks)
        self.assertEqual([shown(made, one.number) for one in made], looks)
        self.assertEqual(plain_looks(made), looks)
        self.assertEqual(weight(made), least)
        return made

    def test_no_cues(self):
        self.assertEqual(self.made([], 0), [])

    def test_empty_looks(self):
        self.made([{}], 0)
        self.made([{}, {}, {}], 0)
        self.made([{}, {}], 0, [stop(1, {PAN: 5}), alone(2, {PAN: 7})])

    def test_told_once_and_carried_on(self):
        self.made([{PAN: 5}], 1)
        self.made([{PAN: 5}, {PAN: 5}, {PAN: 5}], 1)
        self.made([{}, {PAN: 5, RED: 7}, {PAN: 5, RED: 7}], 2)

    def test_other_worths_are_told(self):
        self.made([{PAN: 5}, {PAN: 6}, {PAN: 7}], 3)
        self.made([{PAN: 5}, {PAN: 5}, {}, {}, {PAN: 7}], 3)

    def test_what_comes_back_is_told_over_alone(self):
        self.made([{PAN: 5}, {PAN: 6}, {PAN: 5}], 2)
        self.made([{PAN: 5}, {PAN: 6}, {PAN: 7}, {PAN: 5}], 3)
        self.made([{PAN: 5}, {}, {PAN: 5}], 2)
        self.made([{}, {PAN: 5}, {}], 1)
        self.made([{}, {PAN: 5}, {PAN: 6}, {}], 2)

    def test_what_was_told_between_comes_back(self):
        self.made([{PAN: 5}, {PAN: 6}, {PAN: 7}, {PAN: 6}], 3)
        self.made([{PAN: 5}, {PAN: 6}, {PAN: 7}, {PAN: 6}, {PAN: 5}], 4)
        self.made([{PAN: 1}, {PAN: 2}, {PAN: 1}, {PAN: 3}, {PAN: 1}, {PAN: 2}, {PAN: 2}], 4)

    def test_a_stop_where_it_saves_tellings(self):
        both = {PAN: 5, TILT: 6}
        made = self.made([both, both, {}], 3)
        self.assertEqual([one.stops for one in made], [False, False, True])
        made = self.made([both, both, {RED: 8}, {RED: 8}, {}], 5)
        self.assertTrue(made[2].stops)
        made = self.made([both, both, {RED: 8, PAN: 4}, {RED: 8, PAN: 4}, {}], 6)
        self.assertTrue(made[4].stops)

    def test_several_stops(self):
        three = {PAN: 1, TILT: 2, RED: 3}
        other = {PAN: 4, TILT: 5, BLUE: 6}
        made = self.made([three, three, {}, other, other, {}, three, three, {}], 12)
        self.assertEqual([one.stops for one in made], [False, False, True, False, False, True, False, False, True])

    def test_no_stop_where_it_saves_none(self):
        made = self.made([{PAN: 5, TILT: 6, RED: 7}, {PAN: 5, TILT: 6}], 3)
        self.assertEqual([one.stops for one in made], [False, False])
        made = self.made([{PAN: 5, TILT: 6}, {}, {PAN: 5, TILT: 6}, {PAN: 5, TILT: 6}], 4)
        self.assertEqual([one.stops for one in made], [False] * 4)
        made = self.made([{}, {PAN: 5, TILT: 6, RED: 7}, {}], 3)
        self.assertEqual([one.stops for one in made], [False] * 3)
        made = self.made([{PAN: 5}, {PAN: 5}, {}, {}], 2)
        self.assertEqual([one.alone for one in made[0].parts], [{}])

    def test_a_stop_that_makes_others_be_told_again(self):
        four = {PAN: 1, TILT: 1, RED: 1, BLUE: 1}
        made = self.made([four, four, {BLUE: 1}, {BLUE: 1}], 6)
        self.assertEqual([one.stops for one in made], [False, False, True, False])
        self.assertEqual(made[2].parts[0].tells, {BLUE: 1})

    def test_stops_handed_in_go_where_they_are_not_needed(self):
        cues = [stop(1, {PAN: 5}), stop(2, {PAN: 5}), stop(3, {PAN: 5})]
        made = self.made([{PAN: 5}, {PAN: 5}, {PAN: 5}], 1, cues)
        self.assertEqual([one.stops for one in made], [False, False, False])

    def test_stops_are_truths(self):
        made = self.made([{PAN: 5, TILT: 6}, {PAN: 5, TILT: 6}, {}], 3)
        self.assertEqual([type(one.stops) for one in made], [bool, bool, bool])

    def test_greatest_worths_and_numbers(self):
        looks = [{PAN: MOST}, {PAN: MOST - 1}, {PAN: MOST}]
        made = self.made(looks, 2, [cue(1), cue(MOST - 1), cue(MOST)])
        self.assertEqual([one.number for one in made], [1, MOST - 1, MOST])

    def test_each_kind_of_slot(self):
        slots = [(lamp, side) for lamp in ("a", "abcdefgh") for side in SIDES]
        looks = [{slot: place + 1 for place, slot in enumerate(slots)}, {slots[0]: 1}, {}]
        self.made(looks, 13)


class AllLists(unittest.TestCase):
    """For small cases: no list with these numbers that shows these looks is lighter, for all looks that there are."""

    def against_all(self, count, slots, worths):
        weights = all_weights(count, slots, worths)
        self.assertEqual(len(weights), len(worths) ** (len(slots) * count))
        stops = 0
        for looks, least in weights.items():
            wanted = [{slot: worth for slot, worth in zip(slots, look) if worth > 0} for look in looks]
            made = showing(bare(count), wanted)
            self.assertEqual(plain_looks(made), wanted)
            self.assertEqual(weight(made), least, wanted)
            self.assertEqual(least_weight(wanted), least, wanted)
            stops += any(one.stops for one in made)
        return stops

    def test_one_slot(self):
        self.assertEqual(self.against_all(1, [PAN], (0, 1, 2)), 0)
        self.assertEqual(self.against_all(5, [PAN], (0, 1, 2)), 0)
        self.against_all(4, [PAN], (0, 1, 2, 3))
        self.against_all(6, [PAN], (0, 7))

    def test_two_slots(self):
        self.assertGreater(self.against_all(4, [PAN, TILT], (0, 1)), 3)
        self.assertGreater(self.against_all(5, [PAN, TILT], (0, 1)), 20)
        self.assertGreater(self.against_all(3, [PAN, RED], (0, 1, 2)), 3)

    def test_three_slots(self):
        self.assertGreater(self.against_all(3, [PAN, TILT, RED], (0, 5)), 10)


class Drawn(unittest.TestCase):
    def test_looks(self):
        stops = both = 0
        for seed in range(500):
            chance = random.Random(seed)
            looks = some_looks(chance, chance.randrange(1, 8))
            made = showing(bare(len(looks)), looks)
            self.assertEqual(plain_looks(made), looks)
            self.assertEqual(weight(made), least_weight(looks), looks)
            stops += any(one.stops for one in made)
            both += any(part.alone for one in made for part in one.parts)
        self.assertGreater(min(stops, both), 30)

    def test_looks_for_lists_that_tell_others(self):
        for seed in range(300):
            chance = random.Random(seed + 1000)
            cues = some_list(seed, 6)
            looks = some_looks(chance, len(cues))
            made = showing(cues, looks)
            self.assertEqual(plain_looks(made), looks)
            self.assertEqual(weight(made), least_weight(looks))
            same_frame(self, cues, made)

    def test_fewest(self):
        lighter = 0
        for seed in range(400):
            cues = some_list(seed, 7)
            made = fewest(cues)
            self.assertEqual(plain_looks(made), plain_looks(cues))
            self.assertEqual(weight(made), least_weight(plain_looks(cues)))
            self.assertLessEqual(weight(made), weight(cues))
            self.assertTrue(alike(made, showing(cues, plain_looks(cues))))
            self.assertEqual(weight(fewest(made)), weight(made))
            same_frame(self, cues, made)
            lighter += weight(made) < weight(cues)
        self.assertGreater(lighter, 200)

    def test_as_many_cues_and_slots_as_may_be(self):
        chance = random.Random(5)
        slots = [(lamp, side) for lamp in "abcdefghijklmnopqrst" for side in SIDES][:100]
        worths = {slot: [chance.randrange(1, 4) for place in range(4)] for slot in slots}
        # Each look stays for a while, and one without slots comes behind it, which a stop tells best.
        looks = []
        for place in range(25):
            look = {slot: place * 10 + worth[place % 4] for slot, worth in worths.items()}
            looks += [look, look, look, {}]
        made = showing(bare(100), looks)
        self.assertEqual([shown(made, one.number) for one in made], looks)
        self.assertEqual(weight(made), 25 * 101)
        self.assertEqual([one.number for one in made if one.stops], list(range(4, 101, 4)))

    def test_as_many_that_hang_together(self):
        chance = random.Random(6)
        slots = [(lamp, side) for lamp in "abcdefghijklmnopqrst" for side in SIDES][:100]
        looks = [{slot: chance.randrange(1, 4) for slot in slots} for place in range(100)]
        made = showing(bare(100), looks)
        self.assertEqual([shown(made, one.number) for one in made], looks)
        # No stop may save anything, as no slot ever comes to 0.
        columns = [[look[slot] for look in looks] for slot in slots]
        self.assertEqual(weight(made), sum(least_tellings(column, [False] * 100) for column in columns))


class InParts(unittest.TestCase):
    def setUp(self):
        self.cues = [Cue(3, [Part({PAN: 1}, {}, 10, 20, 30), Part({TILT: 2}, {RED: 3}, 40, 50, 60),
                             Part({}, {}, 70, 80, 90)], True, 5),
                     Cue(4, [Part({}, {}, 1, 2, 3), Part({}, {PAN: 9}, 4, 5, 6)], False, 0),
                     Cue(MOST, [Part({}, {}, MOST, MOST, MOST)] * 9)]

    def test_in_the_part_that_told_it(self):
        made = showing(self.cues, [{PAN: 7, TILT: 8, RED: 9}, {PAN: 6, TILT: 8, RED: 9}, {}])
        self.assertEqual([one.tells for one in made[0].parts], [{PAN: 7}, {TILT: 8, RED: 9}, {}])
        self.assertEqual([{**part.tells, **part.alone} for part in made[1].parts], [{}, {PAN: 6}])

    def test_told_on_before_or_alone(self):
        made = showing(self.cues, [{PAN: 7, RED: 9}, {PAN: 6, RED: 1}, {PAN: 7, RED: 9}])
        self.assertEqual([one.tells for one in made[0].parts], [{PAN: 7}, {RED: 9}, {}])
        self.assertEqual([part.alone for part in made[1].parts], [{RED: 1}, {PAN: 6}])
        self.assertEqual([part.tells for part in made[1].parts], [{}, {}])

    def test_else_in_the_first_part(self):
        made = showing(self.cues, [{BLUE: 7}, {BLUE: 8, TILT: 5}, {BLUE: 7, RED: 2}])
        self.assertEqual([one.tells for one in made[0].parts], [{BLUE: 7}, {}, {}])
        self.assertEqual([{**part.tells, **part.alone} for part in made[1].parts], [{BLUE: 8, TILT: 5}, {}])
        self.assertEqual(made[1].parts[0].alone, {BLUE: 8, TILT: 5})
        self.assertEqual([{**part.tells, **part.alone} for part in made[2].parts], [{RED: 2}] + [{}] * 8)

    def test_numbers_follows_and_times_stay(self):
        for looks in ([{}, {}, {}], [{PAN: 1}, {TILT: 1}, {RED: 1, PAN: 5}]):
            rows = plain(showing(self.cues, looks))
            self.assertEqual([row[0] for row in rows], [3, 4, MOST])
            self.assertEqual([row[3] for row in rows], [5, 0, None])
            self.assertEqual([[part[2:] for part in row[1]] for row in rows],
                             [[(10, 20, 30), (40, 50, 60), (70, 80, 90)], [(1, 2, 3), (4, 5, 6)], [(MOST,) * 3] * 9])

    def test_fewest_too(self):
        made = fewest(self.cues)
        self.assertEqual([{**part.tells, **part.alone} for part in made[0].parts],
                         [{PAN: 1}, {TILT: 2, RED: 3}, {}])
        self.assertEqual([part.alone for part in made[1].parts], [{}, {PAN: 9}])
        self.assertEqual(weight(made), 4)
        self.assertEqual([one.follow for one in made], [5, 0, None])


class Fewest(unittest.TestCase):
    def fewer(self, cues, least):
        made = fewest(cues)
        self.assertEqual(plain_looks(made), plain_looks(cues))
        self.assertEqual(weight(made), least)

    def test_told_again_as_it_was(self):
        self.fewer([on(1, {PAN: 5}), on(2, {PAN: 5}), alone(3, {PAN: 5})], 1)

    def test_told_at_0_that_is_at_0(self):
        self.fewer([on(1, {PAN: 0, TILT: 4}), alone(2, {RED: 0}), on(3, {TILT: 0})], 2)

    def test_told_on_and_alone(self):
        self.fewer([Cue(1, [Part({PAN: 5}, {PAN: 6})]), cue(2)], 2)
        self.fewer([Cue(1, [Part({PAN: 5}, {PAN: 6})])], 1)

    def test_stops(self):
        self.fewer([stop(1, {PAN: 5}), stop(2, {PAN: 5}), stop(3, {})], 2)
        self.fewer([on(1, {PAN: 5, TILT: 5}), cue(2), on(3, {PAN: 0, TILT: 0})], 3)
        self.fewer([on(1, {PAN: 5, TILT: 5}), stop(2, {})], 2)

    def test_forth_and_back(self):
        self.fewer([on(1, {PAN: 5}), on(2, {PAN: 6}), on(3, {PAN: 5}), on(4, {PAN: 6}), on(5, {PAN: 5})], 3)

    def test_the_list_without_cues(self):
        self.assertEqual(fewest([]), [])


class Refusals(unittest.TestCase):
    def test_no_lists(self):
        for thing in no_lists():
            refused(self, NoList, weight, thing)
            refused(self, NoList, fewest, thing)
            refused(self, NoList, showing, thing, [])
            refused(self, NoList, showing, thing, [{}])

    def test_no_lists_whatever_the_looks_are(self):
        for looks in ODD + TUPLES + LISTS + DICTS + TEXTS:
            refused(self, NoList, showing, None, looks)
            refused(self, NoList, showing, [cue(2), cue(1)], looks)
            refused(self, NoList, showing, (cue(1),), looks)


class HandedInAndTold(unittest.TestCase):
    def test_arguments(self):
        self.assertEqual(arguments_of(weight), ["cues"])
        self.assertEqual(arguments_of(showing), ["cues", "looks"])
        self.assertEqual(arguments_of(fewest), ["cues"])
        self.assertEqual(weight(cues=[on(1, {PAN: 1})]), 1)
        self.assertEqual(plain(showing(looks=[{}], cues=[cue(1)])), plain([cue(1)]))
        self.assertEqual(fewest(cues=[]), [])

    def test_what_is_handed_in_stays(self):
        for seed in range(60):
            chance = random.Random(seed)
            cues = some_list(seed)
            looks = some_looks(chance, len(cues))
            handed = list(cues)
            before = plain(cues), [dict(look) for look in looks]
            objects = [id(look) for look in looks]
            weight(cues)
            showing(cues, looks)
            fewest(cues)
            self.assertEqual(cues, handed)
            self.assertEqual((plain(cues), looks), before)
            self.assertEqual([id(look) for look in looks], objects)

    def test_what_is_handed_in_is_not_kept(self):
        cues = [on(1, {PAN: 5}), cue(2)]
        looks = [{PAN: 5, TILT: 6}, {RED: 7}]
        made = showing(cues, looks)
        few = fewest(cues)
        rows = plain(made), plain(few)
        looks[0][PAN] = 9
        looks[1].clear()
        looks.clear()
        cues.clear()
        self.assertEqual((plain(made), plain(few)), rows)

    def test_what_is_told_is_the_asker_s_own(self):
        cues = [on(1, {PAN: 5}), cue(2)]
        few = fewest(cues)
        self.assertIsNot(few, cues)
        self.assertIs(type(few), list)
        rows = plain(few)
        few.append(cue(3))
        few.pop(0)
        self.assertEqual(plain(fewest(cues)), rows)
        made = showing(cues, [{}, {PAN: 4}])
        self.assertIs(type(made), list)
        rows = plain(made)
        made.clear()
        self.assertEqual(plain(showing(cues, [{}, {PAN: 4}])), rows)
        self.assertEqual(len(cues), 2)

    def test_asked_again_the_same_is_told(self):
        for seed in range(60):
            cues = some_list(seed)
            self.assertTrue(alike(fewest(cues), fewest(cues)))


if __name__ == "__main__":
    unittest.main()
