import random
import unittest

from helper import (DICTS, LISTS, MOST, NO_SLOTS, ODD, TEXTS, TUPLES, WRONG_NUMBERS, arguments_of, cue, no_lists, on,
                    plain, plainly_shown, refused, slots_of, some_list, tells_on)
from lampcues.changes import put_in, stopped, taken_out, told_alone, told_on, untold
from lampcues.cues import Cue, Part
from lampcues.errors import NoCue, NoList, NoSlot
from lampcues.looks import shown
from lampcues.reaching import differences, reach

PAN = ("spot", "pan")
TILT = ("spot", "tilt")
RED = ("wash", "red")
NO_NUMBERS = [0, 2, 8, MOST, MOST + 1, 10 ** 5000] + WRONG_NUMBERS + ODD + TUPLES + LISTS + DICTS + TEXTS


def alone(number, tells):
    return Cue(number, [Part({}, tells)])


def base():
    return [on(1, {PAN: 1, TILT: 1}), cue(3), alone(4, {PAN: 7}), cue(5), Cue(6, [Part({}, {}), Part({PAN: 2}, {})]),
            alone(7, {TILT: 0}), Cue(9, [Part({RED: 1}, {})], True), cue(10)]


class Reach(unittest.TestCase):
    def test_as_far_as_the_next_that_tells_it_on(self):
        self.assertEqual(reach(base(), 1, PAN), [1, 3, 5])
        self.assertEqual(reach(base(), 3, PAN), [3, 5])
        self.assertEqual(reach(base(), 5, PAN), [5])

    def test_as_far_as_the_next_that_stops(self):
        self.assertEqual(reach(base(), 6, PAN), [6, 7])
        self.assertEqual(reach(base(), 1, TILT), [1, 3, 4, 5, 6])
        self.assertEqual(reach(base(), 1, RED), [1, 3, 4, 5, 6, 7])

    def test_as_far_as_the_end(self):
        self.assertEqual(reach(base(), 9, RED), [9, 10])
        self.assertEqual(reach(base(), 10, PAN), [10])
        self.assertEqual(reach([on(5, {PAN: 1})], 5, PAN), [5])

    def test_those_that_tell_it_alone_are_passed_over_and_end_nothing(self):
        self.assertEqual(reach(base(), 4, PAN), [5])
        self.assertEqual(reach(base(), 7, TILT), [])
        cues = [on(1, {PAN: 1}), alone(2, {PAN: 0}), alone(3, {PAN: 1}), cue(4), alone(5, {PAN: 1})]
        self.assertEqual(reach(cues, 1, PAN), [1, 4])
        self.assertEqual(reach(cues, 2, PAN), [4])
        self.assertEqual(reach(cues, 5, PAN), [])

    def test_what_the_cue_itself_tells_or_stops_ends_nothing(self):
        self.assertEqual(reach(base(), 6, PAN), [6, 7])
        self.assertEqual(reach(base(), 9, PAN), [9, 10])
        cues = [Cue(1, [Part({PAN: 1}, {})], True), cue(2), Cue(3, [Part({PAN: 1}, {PAN: 2})]), cue(4)]
        self.assertEqual(reach(cues, 1, PAN), [1, 2])
        self.assertEqual(reach(cues, 3, PAN), [4])

    def test_told_on_as_it_was_or_as_0_ends_it_too(self):
        self.assertEqual(reach([on(1, {PAN: 1}), on(2, {PAN: 1}), cue(3)], 1, PAN), [1])
        self.assertEqual(reach([cue(1), on(2, {PAN: 0}), cue(3)], 1, PAN), [1])

    def test_told_on_and_alone_by_one_cue_ends_it(self):
        self.assertEqual(reach([cue(1), Cue(2, [Part({PAN: 1}, {PAN: 2})]), cue(3)], 1, PAN), [1])

    def test_each_part_counts(self):
        cues = [cue(1), Cue(2, [Part({}, {}), Part({}, {}), Part({}, {PAN: 4})]), cue(3),
                Cue(4, [Part({}, {}), Part({}, {}), Part({PAN: 4}, {})])]
        self.assertEqual(reach(cues, 1, PAN), [1, 3])

    def test_other_slots_end_nothing(self):
        cues = [on(1, {PAN: 1}), on(2, {TILT: 5, ("wash", "pan"): 5}), alone(3, {TILT: 5}), cue(4)]
        self.assertEqual(reach(cues, 1, PAN), [1, 2, 3, 4])

    def test_a_slot_that_nobody_tells(self):
        self.assertEqual(reach(base(), 1, ("never", "tilt")), [1, 3, 4, 5, 6, 7])

    def test_great_numbers(self):
        self.assertEqual(reach([on(MOST - 1, {PAN: 1}), cue(MOST)], MOST - 1, PAN), [MOST - 1, MOST])


class ReachRefusals(unittest.TestCase):
    def test_no_lists(self):
        for thing in no_lists():
            refused(self, NoList, reach, thing, 1, PAN)
        refused(self, NoList, reach, [cue(1), cue(2), cue(2)], 1, PAN)

    def test_no_numbers(self):
        for thing in NO_NUMBERS:
            refused(self, NoCue, reach, base(), thing, PAN)
            refused(self, NoCue, reach, [], thing, PAN)

    def test_no_slots(self):
        for thing in NO_SLOTS:
            refused(self, NoSlot, reach, base(), 1, thing)
            refused(self, NoSlot, reach, base(), 10, thing)

    def test_the_first_argument_s_refusal_goes_first(self):
        refused(self, NoList, reach, None, None, None)
        refused(self, NoList, reach, [cue(2), cue(1)], 7, PAN)
        refused(self, NoCue, reach, base(), 2, None)
        refused(self, NoCue, reach, base(), None, ("spot", "up"))


class WhatATellingReaches(unittest.TestCase):
    """[27] and [3], by what the changed list shows."""

    def some(self):
        for seed in range(400):
            chance = random.Random(seed + 40000)
            cues = some_list(seed)
            for one in cues:
                yield chance, cues, one.number, chance.choice(slots_of(cues))

    def test_told_on_at_another_worth(self):
        for chance, cues, number, slot in self.some():
            worth = chance.choice((0, 1, 500, 12345))
            changed = told_on(cues, number, slot, worth)
            reached = reach(cues, number, slot)
            for one in cues:
                shows = shown(cues, one.number)
                if one.number in reached:
                    shows.pop(slot, None)
                    shows.update({slot: worth} if worth else {})
                self.assertEqual(shown(changed, one.number), shows, (plain(cues), number, slot, worth))

    def test_just_those_are_reached(self):
        # No list here tells this worth, so whatever is reached shows another one than before.
        for chance, cues, number, slot in self.some():
            changed = told_on(cues, number, slot, 12345)
            others = [row[0] for row in differences(cues, changed)]
            self.assertEqual(reach(cues, number, slot), others)
            self.assertEqual([row for row in differences(cues, changed) if row[1] != slot or row[3] != 12345], [])

    def test_told_alone_no_other_cue_shows_anything_else(self):
        for chance, cues, number, slot in self.some():
            changed = told_alone(cues, number, slot, 12345)
            self.assertEqual(differences(cues, changed), [(number, slot, shown(cues, number).get(slot, 0), 12345)])

    def test_against_the_plain_telling(self):
        for chance, cues, number, slot in self.some():
            numbers = []
            for one in cues:
                between = [some for some in cues if number < some.number <= one.number]
                ended = any(some.stops or tells_on(some, slot) for some in between)
                told_so = any(slot in part.alone for part in one.parts)
                if one.number >= number and not ended and not told_so:
                    numbers.append(one.number)
            self.assertEqual(reach(cues, number, slot), numbers)


class Differences(unittest.TestCase):
    def test_none(self):
        self.assertEqual(differences([], []), [])
        self.assertEqual(differences(base(), base()), [])

    def test_before_and_behind(self):
        self.assertEqual(differences([on(1, {PAN: 1})], [on(1, {PAN: 2})]), [(1, PAN, 1, 2)])
        self.assertEqual(differences([on(1, {PAN: 2})], [on(1, {PAN: 1})]), [(1, PAN, 2, 1)])
        self.assertEqual(differences([on(1, {PAN: 2})], [on(1, {PAN: 0})]), [(1, PAN, 2, 0)])
        self.assertEqual(differences([cue(1)], [on(1, {PAN: MOST})]), [(1, PAN, 0, MOST)])

    def test_at_each_number_of_either_list(self):
        old = [on(1, {PAN: 1}), cue(3), cue(5)]
        new = [on(2, {PAN: 2}), cue(3), on(4, {PAN: 0}), cue(6)]
        self.assertEqual(differences(old, new), [(1, PAN, 1, 0), (2, PAN, 1, 2), (3, PAN, 1, 2), (4, PAN, 1, 0),
                                                 (5, PAN, 1, 0), (6, PAN, 1, 0)])
        self.assertEqual(differences(new, old), [(1, PAN, 0, 1), (2, PAN, 2, 1), (3, PAN, 2, 1), (4, PAN, 0, 1),
                                                 (5, PAN, 0, 1), (6, PAN, 0, 1)])

    def test_against_the_list_without_cues(self):
        self.assertEqual(differences([], [cue(1), on(2, {PAN: 5}), cue(3)]), [(2, PAN, 0, 5), (3, PAN, 0, 5)])
        self.assertEqual(differences([cue(1), on(2, {PAN: 5}), cue(3)], []), [(2, PAN, 5, 0), (3, PAN, 5, 0)])

    def test_told_otherwise_but_shown_alike(self):
        old = [on(1, {PAN: 1, TILT: 0}), cue(2), cue(3)]
        new = [Cue(1, [Part({PAN: 1}, {}, 7, 8, 9), Part({}, {})], True, 5), on(2, {PAN: 1}), alone(3, {PAN: 1})]
        self.assertEqual(differences(old, new), [])

    def test_a_number_that_one_list_has_not_shows_what_is_carried(self):
        old = [Cue(1, [Part({PAN: 1}, {PAN: 9})])]
        new = [Cue(1, [Part({PAN: 1}, {PAN: 9})]), cue(2), alone(3, {PAN: 9})]
        self.assertEqual(differences(old, new), [(3, PAN, 1, 9)])

    def test_carried_otherwise_but_shown_alike_there(self):
        old = [Cue(1, [Part({PAN: 1}, {PAN: 9})]), cue(2)]
        new = [on(1, {PAN: 9}), cue(2)]
        self.assertEqual(differences(old, new), [(2, PAN, 1, 9)])

    def test_sorted(self):
        slots = [("wash", "red"), ("a", "tilt"), ("spot", "pan"), ("a", "blue"), ("spot", "bright"), ("aa", "blue")]
        old = [on(20, {slot: 3 for slot in slots}), cue(100)]
        new = [on(3, {slot: 5 for slot in reversed(slots)}), cue(20)]
        rows = differences(old, new)
        self.assertEqual([row[:2] for row in rows],
                         [(number, slot) for number in (3, 20, 100) for slot in sorted(slots)])
        self.assertEqual({row[0]: row[2:] for row in rows}, {3: (0, 5), 20: (3, 5), 100: (3, 5)})

    def test_of_changes(self):
        self.assertEqual(differences(base(), stopped(base(), 6)), [(6, TILT, 1, 0)])
        self.assertEqual(differences(base(), stopped(base(), 9, False)),
                         [(9, PAN, 0, 2), (9, TILT, 0, 1), (10, PAN, 0, 2), (10, TILT, 0, 1)])
        self.assertEqual(differences(base(), untold(base(), 6, PAN)), [(6, PAN, 2, 1), (7, PAN, 2, 1)])
        self.assertEqual(differences(base(), put_in(base(), alone(8, {PAN: 6}))), [(8, PAN, 2, 6)])
        self.assertEqual(differences(base(), taken_out(base(), 4)), [(4, PAN, 7, 1)])

    def test_taken_out_with_keeping_no_cue_left_shows_anything_else(self):
        for seed in range(200):
            cues = some_list(seed)
            for one in cues:
                rows = differences(cues, taken_out(cues, one.number, True))
                self.assertEqual([row for row in rows if row[0] != one.number], [])

    def test_against_the_plain_telling(self):
        for seed in range(300):
            old = some_list(seed)
            new = some_list(seed + 5000)
            rows = []
            for number in list(range(30)) + [MOST]:
                for slot in sorted(set(slots_of(old) + slots_of(new))):
                    worths = plainly_shown(old, number, slot), plainly_shown(new, number, slot)
                    if worths[0] != worths[1] and number in [one.number for one in old + new]:
                        rows.append((number, slot) + worths)
            self.assertEqual(differences(old, new), rows)

    def test_kinds(self):
        rows = differences([cue(1)], [on(1, {PAN: 1})])
        self.assertIs(type(rows), list)
        self.assertEqual([type(row) for row in rows], [tuple])

    def test_no_lists(self):
        for thing in no_lists():
            refused(self, NoList, differences, thing, [])
            refused(self, NoList, differences, [], thing)
            refused(self, NoList, differences, base(), thing)

    def test_many_cues_and_slots(self):
        slots = [(lamp, side) for lamp in "abcdefghijklmnop" for side in ("bright", "pan", "tilt", "red", "blue")]
        old = [on(2 * place + 1, {slot: place + 1 for slot in slots}) for place in range(100)]
        new = [on(2 * place + 2, {slot: place + 1 for slot in slots}) for place in range(100)]
        self.assertEqual(differences(old, new),
                         [(number, slot, number // 2 + 1, number // 2) for number in range(1, 201, 2)
                          for slot in sorted(slots)])


class Both(unittest.TestCase):
    def test_arguments(self):
        self.assertEqual(arguments_of(reach), ["cues", "number", "slot"])
        self.assertEqual(arguments_of(differences), ["old", "new"])
        self.assertEqual(reach(slot=PAN, number=3, cues=base()), [3, 5])
        self.assertEqual(differences(new=[on(1, {PAN: 2})], old=[]), [(1, PAN, 0, 2)])

    def test_what_is_handed_in_stays(self):
        cues = base()
        other = stopped(base(), 6)
        handed = list(cues), list(other)
        rows = plain(cues), plain(other)
        reach(cues, 1, PAN)
        differences(cues, other)
        refused(self, NoCue, reach, cues, 2, PAN)
        self.assertEqual((cues, other), handed)
        self.assertEqual((plain(cues), plain(other)), rows)

    def test_what_is_told_is_the_asker_s_own(self):
        cues = base()
        told = reach(cues, 1, PAN)
        kept = reach(cues, 1, PAN)
        told.clear()
        self.assertEqual(reach(cues, 1, PAN), [1, 3, 5])
        rows = differences(cues, [])
        again = differences(cues, [])
        rows.clear()
        self.assertEqual(differences(cues, []), again)
        cues.clear()
        self.assertEqual((kept, len(again)), ([1, 3, 5], 13))
        self.assertEqual(differences(cues, []), [])


if __name__ == "__main__":
    unittest.main()
