import inspect
import unittest

from helper import (DICTS, LISTS, MOST, ODD, SIDES, TEXTS, TUPLES, WRONG_NUMBERS, cue, no_lists, plain,
                    plainly_carried, plainly_shown, refused, slots_of, some_list)
from lampcues.cues import Cue, Part
from lampcues.errors import NoCue, NoList
from lampcues.looks import above, below, carried, cue_at, shown

PAN = ("spot", "pan")
TILT = ("spot", "tilt")
RED = ("wash", "red")
ALL = (carried, shown, above, below, cue_at)
NO_NUMBERS = WRONG_NUMBERS + ODD + TUPLES + LISTS + DICTS + TEXTS


def on(number, told, stops=False):
    return Cue(number, [Part(told, {})], stops)


class Carried(unittest.TestCase):
    def test_nothing(self):
        for number in (0, 1, MOST, MOST + 1, 10 ** 30):
            self.assertEqual(carried([], number), {})
            self.assertEqual(carried([cue(1)], number), {})

    def test_carried_on(self):
        cues = [on(2, {PAN: 5}), on(4, {TILT: 6}), on(7, {PAN: 8})]
        self.assertEqual([carried(cues, number) for number in range(9)],
                         [{}, {}, {PAN: 5}, {PAN: 5}, {PAN: 5, TILT: 6}, {PAN: 5, TILT: 6}, {PAN: 5, TILT: 6},
                          {PAN: 8, TILT: 6}, {PAN: 8, TILT: 6}])

    def test_beyond_all_cues(self):
        cues = [on(MOST, {PAN: 5})]
        self.assertEqual(carried(cues, MOST - 1), {})
        for number in (MOST, MOST + 1, 10 ** 12, 10 ** 5000):
            self.assertEqual(carried(cues, number), {PAN: 5})
            self.assertEqual(shown(cues, number), {PAN: 5})

    def test_told_as_nought_is_in_no_look(self):
        cues = [on(1, {PAN: 5, TILT: 0}), on(2, {PAN: 0, RED: 0}), on(3, {PAN: 1})]
        self.assertEqual([carried(cues, number) for number in range(4)], [{}, {PAN: 5}, {}, {PAN: 1}])

    def test_a_stop_empties_ahead_of_what_its_cue_tells(self):
        cues = [on(1, {PAN: 5, RED: 7}), on(2, {TILT: 6}, True), on(3, {}), on(4, {}, True), on(5, {PAN: 1}, True)]
        self.assertEqual([carried(cues, number) for number in range(6)],
                         [{}, {PAN: 5, RED: 7}, {TILT: 6}, {TILT: 6}, {}, {PAN: 1}])

    def test_a_stop_and_the_same_worth(self):
        cues = [on(1, {PAN: 5, RED: 7}), on(2, {PAN: 5}, True)]
        self.assertEqual(carried(cues, 2), {PAN: 5})

    def test_all_parts_tell(self):
        cues = [Cue(1, [Part({PAN: 1}, {}), Part({TILT: 2}, {}, 5, 5, 5), Part({RED: 3}, {})])]
        self.assertEqual(carried(cues, 1), {PAN: 1, TILT: 2, RED: 3})

    def test_nothing_told_alone_is_carried(self):
        cues = [on(1, {PAN: 5}), Cue(2, [Part({TILT: 3}, {PAN: 9, TILT: 4, RED: 1})]), cue(3)]
        self.assertEqual([carried(cues, number) for number in range(4)],
                         [{}, {PAN: 5}, {PAN: 5, TILT: 3}, {PAN: 5, TILT: 3}])

    def test_worths_at_the_edges(self):
        self.assertEqual(carried([on(1, {PAN: 1, TILT: MOST})], 1), {PAN: 1, TILT: MOST})


class Shown(unittest.TestCase):
    def test_alone_at_just_its_cue(self):
        cues = [on(2, {PAN: 5}), Cue(4, [Part({}, {PAN: 9, RED: 1})]), cue(6)]
        self.assertEqual([shown(cues, number) for number in range(8)],
                         [{}, {}, {PAN: 5}, {PAN: 5}, {PAN: 9, RED: 1}, {PAN: 5}, {PAN: 5}, {PAN: 5}])

    def test_alone_goes_over_on(self):
        cues = [Cue(1, [Part({PAN: 3, TILT: 4}, {PAN: 7})]), cue(2)]
        self.assertEqual(shown(cues, 1), {PAN: 7, TILT: 4})
        self.assertEqual(shown(cues, 2), {PAN: 3, TILT: 4})

    def test_alone_as_nought(self):
        cues = [Cue(1, [Part({PAN: 3, TILT: 4}, {PAN: 0, RED: 0})]), cue(2)]
        self.assertEqual(shown(cues, 1), {TILT: 4})
        self.assertEqual(shown(cues, 2), {PAN: 3, TILT: 4})

    def test_alone_over_on_as_nought(self):
        cues = [on(1, {PAN: 3}), Cue(2, [Part({PAN: 0}, {PAN: 6})])]
        self.assertEqual((shown(cues, 2), shown(cues, 3)), ({PAN: 6}, {}))

    def test_alone_in_a_cue_that_stops(self):
        cues = [on(1, {PAN: 3}), Cue(2, [Part({}, {TILT: 6})], True), cue(3)]
        self.assertEqual((shown(cues, 2), shown(cues, 3)), ({TILT: 6}, {}))

    def test_all_parts_tell(self):
        cues = [Cue(1, [Part({RED: 1}, {PAN: 1}), Part({}, {TILT: 2}), Part({}, {})])]
        self.assertEqual(shown(cues, 1), {RED: 1, PAN: 1, TILT: 2})
        cues = [Cue(1, [Part({}, {}), Part({RED: 1}, {RED: 0})])]
        self.assertEqual(shown(cues, 1), {})


class AgainstThePlainTelling(unittest.TestCase):
    def test_looks(self):
        for seed in range(300):
            cues = some_list(seed)
            for number in list(range(27)) + [MOST - 1, MOST, MOST + 1]:
                carries = carried(cues, number)
                shows = shown(cues, number)
                for slot in slots_of(cues):
                    self.assertEqual(carries.get(slot, 0), plainly_carried(cues, number, slot), (seed, number, slot))
                    self.assertEqual(shows.get(slot, 0), plainly_shown(cues, number, slot), (seed, number, slot))
                for look in (carries, shows):
                    self.assertEqual([slot for slot in look if look[slot] < 1 or slot not in slots_of(cues)], [])
                    self.assertIs(type(look), dict)

    def test_neighbours(self):
        for seed in range(300):
            cues = some_list(seed)
            numbers = [one.number for one in cues]
            for number in list(range(27)) + [MOST - 1, MOST, MOST + 1]:
                self.assertEqual(above(cues, number), min([one for one in numbers if one > number] or [0]))
                self.assertEqual(below(cues, number), max([one for one in numbers if one < number] or [0]))
                found = cue_at(cues, number)
                if number in numbers:
                    self.assertIs(found, cues[numbers.index(number)])
                else:
                    self.assertIsNone(found)


class WhatAChangeReaches(unittest.TestCase):
    """[3]: just as far as the next cue that tells the slot on, or stops; alone reaches its own cue."""

    def looks(self, cues):
        return [shown(cues, number) for number in range(1, 9)]

    def base(self):
        return [on(1, {PAN: 1, TILT: 1}), on(2, {}), on(3, {RED: 1}), Cue(4, [Part({}, {PAN: 7})]), on(5, {}),
                on(6, {PAN: 2}), on(7, {}, True), on(8, {})]

    def test_told_on_reaches_to_the_next_telling(self):
        cues = self.base()
        before = self.looks(cues)
        cues[1] = on(2, {PAN: 50})
        behind = self.looks(cues)
        self.assertEqual([look.get(PAN, 0) for look in behind], [1, 50, 50, 7, 50, 2, 0, 0])
        for one, other in zip(before, behind):
            self.assertEqual({slot: one[slot] for slot in one if slot != PAN},
                             {slot: other[slot] for slot in other if slot != PAN})

    def test_told_on_reaches_to_the_next_stop(self):
        cues = self.base()
        cues[1] = on(2, {TILT: 50})
        self.assertEqual([look.get(TILT, 0) for look in self.looks(cues)], [1, 50, 50, 50, 50, 50, 0, 0])

    def test_told_alone_reaches_nothing_behind(self):
        cues = self.base()
        before = self.looks(cues)
        cues[1] = Cue(2, [Part({}, {PAN: 50, RED: 50})])
        behind = self.looks(cues)
        self.assertEqual(behind[1], {PAN: 50, TILT: 1, RED: 50})
        self.assertEqual(behind[:1] + behind[2:], before[:1] + before[2:])


class Neighbours(unittest.TestCase):
    def test_above(self):
        cues = [cue(3), cue(5), cue(MOST)]
        self.assertEqual([above(cues, number) for number in (0, 2, 3, 4, 5, 6, MOST - 1, MOST, MOST + 1, 10 ** 30)],
                         [3, 3, 5, 5, MOST, MOST, MOST, 0, 0, 0])
        self.assertEqual(above([], 0), 0)

    def test_below(self):
        cues = [cue(3), cue(5), cue(MOST)]
        self.assertEqual([below(cues, number) for number in (0, 2, 3, 4, 5, 6, MOST, MOST + 1, 10 ** 30)],
                         [0, 0, 0, 3, 3, 5, 5, MOST, MOST])
        self.assertEqual(below([], 7), 0)

    def test_cue_at(self):
        cues = [cue(3), cue(5), cue(MOST)]
        for one in cues:
            self.assertIs(cue_at(cues, one.number), one)
        for number in (0, 1, 2, 4, 6, MOST - 1, MOST + 1, 10 ** 30):
            self.assertIsNone(cue_at(cues, number))
        self.assertIsNone(cue_at([], 0))


class All(unittest.TestCase):
    def test_arguments(self):
        for ask in ALL:
            self.assertEqual(list(inspect.signature(ask).parameters), ["cues", "number"])
            ask(number=3, cues=[cue(3)])

    def test_no_lists_are_refused(self):
        for thing in no_lists():
            for ask in ALL:
                refused(self, NoList, ask, thing, 0)

    def test_no_numbers_are_refused(self):
        for thing in NO_NUMBERS:
            for ask in ALL:
                refused(self, NoCue, ask, [], thing)
                refused(self, NoCue, ask, [on(1, {PAN: 1}), cue(2)], thing)

    def test_the_list_s_refusal_goes_first(self):
        for ask in ALL:
            for thing in (-1, None, True, [], "1"):
                refused(self, NoList, ask, [cue(2), cue(1)], thing)
                refused(self, NoList, ask, None, thing)

    def test_a_list_is_refused_for_a_cue_behind_the_number_too(self):
        for ask in ALL:
            refused(self, NoList, ask, [cue(1), cue(5), cue(4)], 1)
            refused(self, NoList, ask, [cue(1), None], 1)

    def test_what_is_handed_in_stays(self):
        for seed in range(40):
            cues = some_list(seed)
            handed = list(cues)
            before = plain(cues)
            for ask in ALL:
                for number in (0, 3, 11, 30):
                    ask(cues, number)
                refused(self, NoCue, ask, cues, -1)
            self.assertEqual(cues, handed)
            self.assertEqual(plain(cues), before)

    def test_a_look_is_the_asker_s_own(self):
        cues = [Cue(1, [Part({PAN: 5}, {TILT: 6})])]
        before = plain(cues)
        for ask, look in ((carried, {PAN: 5}), (shown, {PAN: 5, TILT: 6})):
            told = ask(cues, 1)
            kept = ask(cues, 1)
            told[PAN] = 99
            told[RED] = 99
            told.pop(TILT, None)
            self.assertEqual(kept, look)
            self.assertEqual(ask(cues, 1), look)
            self.assertEqual(plain(cues), before)

    def test_a_look_stays_as_the_list_is_changed_behind_it(self):
        cues = [on(1, {PAN: 5})]
        told = [carried(cues, 9), shown(cues, 9)]
        cues.append(on(2, {PAN: 6}))
        self.assertEqual(told, [{PAN: 5}, {PAN: 5}])
        self.assertEqual([carried(cues, 9), shown(cues, 9)], [{PAN: 6}, {PAN: 6}])

    def test_empty_looks_are_own_ones_too(self):
        told = carried([], 0)
        told[PAN] = 1
        self.assertEqual((carried([], 0), shown([], 0)), ({}, {}))

    def test_many_cues_and_slots(self):
        slots = [(lamp, side) for lamp in "abcdefghijklmnop" for side in SIDES]
        cues = [on(place + 1, {slots[place % 96]: place + 1}) for place in range(200)]
        look = shown(cues, 200)
        self.assertEqual(len(look), 96)
        self.assertEqual(look[slots[0]], 193)
        self.assertEqual(look[slots[95]], 192)


if __name__ == "__main__":
    unittest.main()
