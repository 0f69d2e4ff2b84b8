import inspect
import itertools
import string
import unittest
from collections import OrderedDict, defaultdict

from helper import (DICTS, LISTS, MOST, NO_LAMPS, NO_SLOTS, NO_WORTHS, NUMBERS, ODD, SIDES, TEXTS, TUPLES,
                    WRONG_NUMBERS, NumberLike, Sulky, SulkyKey, can_be_key, cue, no_lists, plain, refused, some_list)
from lampcues.cues import Cue, Part, alike, cue_list, is_lamp, is_slot, is_worth
from lampcues.errors import NoCue, NoList, NoPart, NoSlot, NoTime, NoWorth

PAN = ("spot", "pan")
TILT = ("spot", "tilt")
RED = ("wash", "red")

NO_TIMES = NO_WORTHS
NO_NUMBERS = [0] + NO_WORTHS


class Asking(unittest.TestCase):
    def assert_each(self, ask, truth, things):
        for place, thing in enumerate(things):
            self.assertIs(ask(thing), truth, (ask.__name__, place))

    def test_lamps(self):
        self.assert_each(is_lamp, True, list(string.ascii_lowercase))
        self.assert_each(is_lamp, True, ["spot", "zz", "abcdefg", "abcdefgh", "zzzzzzzz", "pan"])

    def test_no_lamps(self):
        self.assert_each(is_lamp, False, NO_LAMPS)
        self.assert_each(is_lamp, False, ODD + TUPLES + LISTS + DICTS + NUMBERS + WRONG_NUMBERS)
        self.assert_each(is_lamp, False, [["s", "p"], ("a",), {"a": 1}])

    def test_of_all_signs_just_small_letters_are_in_a_lamp(self):
        for place in range(300):
            sign = chr(place)
            for lamp in (sign, sign + "a", "a" + sign, "a" + sign + "a"):
                self.assertIs(is_lamp(lamp), sign in string.ascii_lowercase, repr(lamp))

    def test_slots(self):
        self.assert_each(is_slot, True, [(lamp, side) for lamp in ("a", "spot", "abcdefgh", "pan") for side in SIDES])

    def test_no_slots(self):
        self.assert_each(is_slot, False, NO_SLOTS)

    def test_worths(self):
        self.assert_each(is_worth, True, [0, 1, 2, 999, 1000, MOST - 1, MOST])

    def test_no_worths(self):
        self.assert_each(is_worth, False, NO_WORTHS)

    def test_asking_changes_nothing(self):
        thing = ["spot", ["pan"]]
        for ask in (is_lamp, is_slot, is_worth):
            ask(thing)
        self.assertEqual(thing, ["spot", ["pan"]])


class PartFields(unittest.TestCase):
    def test_fields(self):
        part = Part({PAN: 3, RED: 0}, {PAN: 0, TILT: MOST}, 1, 20, 300)
        self.assertEqual(part.tells, {PAN: 3, RED: 0})
        self.assertEqual(part.alone, {PAN: 0, TILT: MOST})
        self.assertEqual((part.rise, part.fall, part.wait), (1, 20, 300))

    def test_times_left_out_are_nought(self):
        part = Part({}, {})
        self.assertEqual((part.tells, part.alone, part.rise, part.fall, part.wait), ({}, {}, 0, 0, 0))
        part = Part({}, {}, 5)
        self.assertEqual((part.rise, part.fall, part.wait), (5, 0, 0))

    def test_by_names(self):
        part = Part(wait=3, fall=2, rise=1, alone={PAN: 4}, tells={TILT: 5})
        self.assertEqual((part.tells, part.alone, part.rise, part.fall, part.wait), ({TILT: 5}, {PAN: 4}, 1, 2, 3))

    def test_both_dicts_have_to_be_told(self):
        spec = inspect.signature(Part).parameters
        self.assertEqual([(one.name, one.default) for one in spec.values()],
                         [("tells", inspect.Parameter.empty), ("alone", inspect.Parameter.empty),
                          ("rise", 0), ("fall", 0), ("wait", 0)])

    def test_edges_are_taken(self):
        for worth in (0, 1, MOST):
            self.assertEqual(Part({PAN: worth}, {}).tells, {PAN: worth})
            self.assertEqual(Part({}, {PAN: worth}).alone, {PAN: worth})
        for ticks in (0, 1, MOST):
            part = Part({}, {}, ticks, ticks, ticks)
            self.assertEqual((part.rise, part.fall, part.wait), (ticks, ticks, ticks))

    def test_dicts_are_copies(self):
        tells = {PAN: 1}
        alone = {RED: 2}
        part = Part(tells, alone)
        self.assertEqual((tells, alone), ({PAN: 1}, {RED: 2}))
        tells[TILT] = 5
        alone.clear()
        self.assertEqual((part.tells, part.alone), ({PAN: 1}, {RED: 2}))

    def test_one_dict_for_both_is_copied_twice(self):
        told = {PAN: 1}
        part = Part(told, told)
        self.assertIsNot(part.tells, part.alone)
        self.assertIsNot(part.tells, told)
        self.assertIsNot(part.alone, told)

    def test_dicts_of_narrower_kinds_are_dicts(self):
        part = Part(OrderedDict({PAN: 1}), defaultdict(int, {RED: 2}))
        self.assertEqual((part.tells, part.alone), ({PAN: 1}, {RED: 2}))
        self.assertEqual((type(part.tells), type(part.alone)), (dict, dict))


class PartRefusals(unittest.TestCase):
    def test_no_dict(self):
        for thing in ODD + TUPLES + LISTS + TEXTS + NUMBERS + [[(PAN, 1)], PAN]:
            refused(self, NoSlot, Part, thing, {})
            refused(self, NoSlot, Part, {}, thing)

    def test_no_slot(self):
        things = [thing for thing in NO_SLOTS if can_be_key(thing)]
        self.assertGreater(len(things), 50)
        for thing in things:
            refused(self, NoSlot, Part, {thing: 1}, {})
            refused(self, NoSlot, Part, {}, {thing: 1})

    def test_one_slot_of_several_is_none(self):
        for keys in itertools.permutations([PAN, "pan", RED]):
            refused(self, NoSlot, Part, dict.fromkeys(keys, 1), {})
            refused(self, NoSlot, Part, {}, dict.fromkeys(keys, 1))

    def test_no_worth(self):
        for thing in NO_WORTHS:
            refused(self, NoWorth, Part, {PAN: thing}, {})
            refused(self, NoWorth, Part, {}, {PAN: thing})
            refused(self, NoWorth, Part, {TILT: 1, PAN: thing, RED: 1}, {})

    def test_no_time(self):
        for thing in NO_TIMES:
            refused(self, NoTime, Part, {}, {}, thing)
            refused(self, NoTime, Part, {}, {}, 0, thing)
            refused(self, NoTime, Part, {}, {}, 0, 0, thing)
            refused(self, NoTime, Part, {PAN: 1}, {PAN: 2}, wait=thing)

    def test_order(self):
        some = [({PAN: 1}, None), ({PAN: -1}, NoWorth), ({"pan": 1}, NoSlot), ({"pan": -1}, NoSlot), ([], NoSlot),
                ({PAN: 1, "pan": None}, NoSlot), ({PAN: None, "pan": 1}, NoSlot)]
        for one, other in itertools.product(some, repeat=2):
            for times in ((0, 0, 0), (-1, 0, 0), (0, None, 0), (0, 0, True), ("", "", "")):
                faults = [one[1], other[1], None if times == (0, 0, 0) else NoTime]
                first = [kind for kind in (NoSlot, NoWorth, NoTime) if kind in faults]
                if first:
                    refused(self, first[0], Part, one[0], other[0], *times)
                else:
                    Part(one[0], other[0], *times)

    def test_what_is_refused_stays(self):
        tells = {PAN: 1, "pan": 2}
        alone = {PAN: -1}
        refused(self, NoSlot, Part, tells, alone, -1)
        self.assertEqual((tells, alone), ({PAN: 1, "pan": 2}, {PAN: -1}))


class CueFields(unittest.TestCase):
    def test_fields(self):
        parts = [Part({PAN: 1}, {}), Part({}, {TILT: 1}, 1, 2, 3)]
        cue = Cue(7, parts, True, 1500)
        self.assertEqual((cue.number, cue.stops, cue.follow), (7, True, 1500))
        self.assertEqual(len(cue.parts), 2)
        self.assertIs(cue.parts[0], parts[0])
        self.assertIs(cue.parts[1], parts[1])

    def test_left_out(self):
        cue = Cue(1, [Part({}, {})])
        self.assertIs(cue.stops, False)
        self.assertIsNone(cue.follow)

    def test_by_names(self):
        part = Part({}, {})
        cue = Cue(follow=0, stops=True, parts=[part], number=3)
        self.assertEqual((cue.number, cue.parts, cue.stops, cue.follow), (3, [part], True, 0))
        spec = inspect.signature(Cue).parameters
        self.assertEqual([(one.name, one.default) for one in spec.values()],
                         [("number", inspect.Parameter.empty), ("parts", inspect.Parameter.empty),
                          ("stops", False), ("follow", None)])

    def test_edges_are_taken(self):
        for number in (1, 2, MOST - 1, MOST):
            self.assertEqual(Cue(number, [Part({}, {})]).number, number)
        for count in range(1, 10):
            self.assertEqual(len(Cue(1, [Part({}, {}) for place in range(count)]).parts), count)
        for follow in (None, 0, 1, MOST):
            self.assertEqual(Cue(1, [Part({}, {})], False, follow).follow, follow)

    def test_parts_are_a_copy(self):
        parts = [Part({PAN: 1}, {}), Part({}, {})]
        handed = list(parts)
        cue = Cue(1, parts)
        self.assertEqual(parts, handed)
        parts.append(Part({PAN: 2}, {}))
        parts[0] = Part({}, {})
        self.assertEqual(cue.parts, handed)

    def test_a_slot_may_be_told_in_both_ways_by_one_part(self):
        cue = Cue(1, [Part({PAN: 1}, {PAN: 2}), Part({TILT: 1}, {TILT: 1})])
        self.assertEqual(len(cue.parts), 2)

    def test_one_part_that_tells_nothing_may_stand_twice(self):
        part = Part({}, {})
        self.assertEqual(Cue(1, [part, part]).parts, [part, part])


class CueRefusals(unittest.TestCase):
    def test_no_number(self):
        for thing in NO_NUMBERS:
            refused(self, NoCue, Cue, thing, [Part({}, {})])

    def test_no_list_of_parts(self):
        part = Part({}, {})
        wrong = [[], (part,), part, {part: part}, {0: part}, [part] * 10, [part] * 11, [part] * 200, [[part]],
                 [part, None], [None, part], [part, {}], [part, Part], [Cue(1, [part])], [part, Cue(1, [part])]]
        things = [thing for thing in LISTS if not (len(thing) == 1 and isinstance(thing[0], Part))]
        for thing in wrong + things + ODD + TUPLES + DICTS + TEXTS + NUMBERS:
            refused(self, NoPart, Cue, 1, thing)
        for thing in ODD + TUPLES + LISTS + DICTS + TEXTS + NUMBERS:
            refused(self, NoPart, Cue, 1, [part, thing])
            refused(self, NoPart, Cue, 1, [thing])

    def test_a_slot_told_by_two_parts(self):
        ways = [Part({PAN: 1}, {}), Part({}, {PAN: 1}), Part({PAN: 1}, {PAN: 2}), Part({PAN: 0}, {}),
                Part({}, {PAN: 0}), Part({TILT: 1, PAN: 1}, {RED: 3})]
        for one, other in itertools.product(ways, repeat=2):
            refused(self, NoPart, Cue, 1, [one, other])
            refused(self, NoPart, Cue, 1, [Part({RED: 1}, {}) if one is not ways[5] else Part({}, {}), one,
                                           Part({}, {}), other])

    def test_like_slots_are_others(self):
        Cue(1, [Part({("spot", "pan"): 1}, {}), Part({("spot", "tilt"): 1}, {}), Part({("wash", "pan"): 1}, {})])

    def test_no_follow(self):
        for thing in NO_TIMES:
            if thing is not None:
                refused(self, NoTime, Cue, 1, [Part({}, {})], False, thing)
                refused(self, NoTime, Cue, 1, [Part({}, {})], follow=thing)

    def test_order(self):
        part = Part({PAN: 1}, {})
        for number, parts, follow in itertools.product((1, 0, None), ([part], [], [part, part], None), (None, -1, "1")):
            first = [kind for kind, fault in ((NoCue, number != 1), (NoPart, parts != [part]),
                                              (NoTime, follow is not None)) if fault]
            if first:
                refused(self, first[0], Cue, number, parts, False, follow)
            else:
                Cue(number, parts, False, follow)

    def test_what_is_refused_stays(self):
        parts = [Part({PAN: 1}, {}), Part({PAN: 1}, {})]
        handed = list(parts)
        refused(self, NoPart, Cue, 1, parts)
        self.assertEqual(parts, handed)


class PartOfSlot(unittest.TestCase):
    def setUp(self):
        self.parts = [Part({RED: 1}, {}), Part({PAN: 0}, {}), Part({}, {TILT: 0}),
                      Part({("a", "pan"): 1}, {("a", "pan"): 2})]
        self.cue = Cue(1, self.parts)

    def test_told_on(self):
        self.assertIs(self.cue.part_of(RED), self.parts[0])
        self.assertIs(self.cue.part_of(PAN), self.parts[1])

    def test_told_alone(self):
        self.assertIs(self.cue.part_of(TILT), self.parts[2])

    def test_told_in_both_ways(self):
        self.assertIs(self.cue.part_of(("a", "pan")), self.parts[3])

    def test_told_by_none(self):
        self.assertIs(self.cue.part_of(("spot", "red")), self.parts[0])
        self.assertIs(self.cue.part_of(slot=("zzz", "bright")), self.parts[0])

    def test_one_part(self):
        part = Part({}, {PAN: 1})
        for slot in (PAN, TILT, RED):
            self.assertIs(Cue(9, [part]).part_of(slot), part)

    def test_no_slot_is_refused(self):
        for thing in NO_SLOTS:
            refused(self, NoSlot, self.cue.part_of, thing)

    def test_asking_changes_nothing(self):
        before = plain([self.cue])
        self.cue.part_of(PAN)
        refused(self, NoSlot, self.cue.part_of, "pan")
        self.assertEqual(plain([self.cue]), before)
        self.assertEqual(self.cue.parts, self.parts)


class Lists(unittest.TestCase):
    def test_told(self):
        for numbers in ([], [1], [1, 2], [MOST], [3, 9, 12, MOST]):
            cues = [cue(number) for number in numbers]
            told = cue_list(cues)
            self.assertIs(type(told), list)
            self.assertIsNot(told, cues)
            self.assertEqual(len(told), len(cues))
            for mine, theirs in zip(told, cues):
                self.assertIs(mine, theirs)

    def test_neither_hangs_on_the_other(self):
        one = cue(1)
        cues = [one]
        told = cue_list(cues)
        again = cue_list(cues)
        cues.append(cue(2))
        self.assertEqual(told, [one])
        told.clear()
        self.assertEqual(len(cues), 2)
        self.assertEqual(again, [one])

    def test_many_cues(self):
        cues = [cue(number) for number in range(1, 201)]
        self.assertEqual(cue_list(cues=cues), cues)

    def test_no_lists(self):
        for thing in no_lists():
            refused(self, NoList, cue_list, thing)

    def test_what_is_refused_stays(self):
        cues = [cue(2), cue(1)]
        handed = list(cues)
        refused(self, NoList, cue_list, cues)
        self.assertEqual(cues, handed)


class Alike(unittest.TestCase):
    def variants(self):
        """Lists of which each is unlike each other one."""
        def made(number=5, on=3, alone=4, rise=1, fall=2, wait=3, stops=False, follow=1000, more=None, slot=PAN):
            first = Part({slot: on, RED: 0} if on is not None else {RED: 0}, {slot: alone} if alone is not None else {},
                         rise, fall, wait)
            parts = {None: [first], "behind": [first, Part({}, {})], "ahead": [Part({}, {}), first],
                     "other": [first, Part({}, {TILT: 1})]}[more]
            return Cue(number, parts, stops, follow)

        each = [made(), made(number=6), made(on=0), made(on=None), made(alone=0), made(alone=None), made(rise=0),
                made(fall=0), made(wait=0), made(rise=2, fall=1), made(fall=3, wait=2), made(stops=True),
                made(follow=None), made(follow=0), made(follow=999), made(more="behind"), made(more="ahead"),
                made(more="other"), made(slot=TILT), made(on=4, alone=3)]
        lists = [[]] + [[one] for one in each]
        lists += [[cue(1), one] for one in each] + [[one, cue(9)] for one in each]
        swapped = [Part({PAN: 1}, {}), Part({TILT: 1}, {})]
        return lists + [[Cue(1, swapped)], [Cue(1, swapped[::-1])], [Cue(1, [Part({PAN: 1}, {TILT: 1})])],
                        [Cue(1, [Part({TILT: 1}, {PAN: 1})])], [cue(1), cue(2), cue(3)]]

    def test_each_difference_is_seen(self):
        ones = self.variants()
        others = self.variants()
        for left, one in enumerate(ones):
            for right, other in enumerate(others):
                self.assertIs(alike(one, other), left == right, (left, right))

    def test_a_list_is_alike_to_itself(self):
        for seed in range(50):
            cues = some_list(seed)
            self.assertIs(alike(cues, cues), True)
            self.assertIs(alike(one=cues, other=some_list(seed)), True)

    def test_the_order_of_keys_is_nothing(self):
        one = [Cue(1, [Part({PAN: 1, TILT: 2, RED: 0}, {PAN: 3, RED: 4})])]
        other = [Cue(1, [Part({RED: 0, TILT: 2, PAN: 1}, {RED: 4, PAN: 3})])]
        self.assertIs(alike(one, other), True)

    def test_told_as_nought_is_not_untold(self):
        self.assertIs(alike([Cue(1, [Part({PAN: 0}, {})])], [Cue(1, [Part({}, {})])]), False)
        self.assertIs(alike([Cue(1, [Part({}, {PAN: 0})])], [Cue(1, [Part({}, {})])]), False)

    def test_no_lists_are_refused(self):
        for thing in no_lists():
            refused(self, NoList, alike, thing, [])
            refused(self, NoList, alike, [], thing)
            refused(self, NoList, alike, [cue(1)], thing)
            refused(self, NoList, alike, thing, thing)

    def test_asking_changes_nothing(self):
        one = some_list(3)
        other = some_list(4)
        before = (plain(one), plain(other))
        alike(one, other)
        self.assertEqual((plain(one), plain(other)), before)


class OddThings(unittest.TestCase):
    def test_they_are_as_odd_as_they_should_be(self):
        with self.assertRaises(RuntimeError):
            Sulky() == 1
        with self.assertRaises(RuntimeError):
            bool(Sulky())
        with self.assertRaises(RuntimeError):
            {SulkyKey(): 1}[SulkyKey()]
        self.assertEqual(range(5)[NumberLike()], 1)


if __name__ == "__main__":
    unittest.main()
