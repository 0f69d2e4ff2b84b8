import random
import unittest

from helper import (DICTS, LISTS, MOST, NO_SLOTS, NO_WORTHS, NUMBERS, ODD, TEXTS, TUPLES, WRONG_NUMBERS, arguments_of,
                    cue, no_lists, on, plain, plainly_kept, plainly_shown, plainly_told, refused, slots_of, some_cue,
                    some_list)
from lampcues.changes import put_in, stopped, taken_out, told_alone, told_on, untold
from lampcues.cues import Cue, Part, alike, cue_list
from lampcues.errors import NoCue, NoList, NoPart, NoSlot, NoWorth
from lampcues.looks import carried, shown

PAN = ("spot", "pan")
TILT = ("spot", "tilt")
RED = ("wash", "red")
BLUE = ("wash", "blue")
TELLINGS = (told_on, told_alone)
NO_PLACES = [2, 3, 9, MOST, 10 ** 5000] + WRONG_NUMBERS + ODD + TUPLES + LISTS + DICTS + TEXTS
# What no cue of the lists here has: 1 and 3 to 5 and 7 are had.
NO_NUMBERS = [0, 2, 6, 8, MOST, MOST + 1, 10 ** 5000] + WRONG_NUMBERS + ODD + TUPLES + LISTS + DICTS + TEXTS


def base():
    """Five cues, one of two parts, one that stops."""
    return [on(1, {PAN: 1, TILT: 2, RED: 3}, 10, 20, 30),
            Cue(3, [Part({PAN: 5}, {TILT: 6}, 1, 2, 3), Part({RED: 0}, {RED: 9}, 4, 5, 6)], False, 700),
            cue(4), Cue(5, [Part({}, {BLUE: 8}, 7, 8, 9)], True, 0), on(7, {RED: 4})]


def told_part(cues, number, place):
    """What the part at this place of the cue of this number tells on, and alone."""
    part = [one for one in cues if one.number == number][0].parts[place]
    return part.tells, part.alone


def with_parts(cues, number, *told):
    """All of the list, with these pairs told by the parts of one cue."""
    rows = plain(cues)
    for place, row in enumerate(rows):
        if row[0] == number:
            parts = [tells + part[2:] for tells, part in zip(told, row[1], strict=True)]
            rows[place] = (number, parts) + row[2:]
    return rows


class ToldOn(unittest.TestCase):
    def test_in_the_first_part_where_none_is_told_and_none_tells_it(self):
        cues = base()
        self.assertEqual(plain(told_on(cues, 3, BLUE, 11)),
                         with_parts(cues, 3, ({PAN: 5, BLUE: 11}, {TILT: 6}), ({RED: 0}, {RED: 9})))

    def test_in_the_part_at_the_told_place(self):
        cues = base()
        self.assertEqual(plain(told_on(cues, 3, BLUE, 11, 0)), plain(told_on(cues, 3, BLUE, 11)))
        self.assertEqual(plain(told_on(cues, 3, BLUE, 11, 1)),
                         with_parts(cues, 3, ({PAN: 5}, {TILT: 6}), ({RED: 0, BLUE: 11}, {RED: 9})))

    def test_in_the_part_that_tells_it_on_whatever_place_is_told(self):
        cues = base()
        for place in (0, 1):
            self.assertEqual(plain(told_on(cues, 3, PAN, 11, place)),
                             with_parts(cues, 3, ({PAN: 11}, {TILT: 6}), ({RED: 0}, {RED: 9})))

    def test_in_the_part_that_tells_it_alone_whatever_place_is_told(self):
        cues = base()
        for place in (0, 1):
            self.assertEqual(plain(told_on(cues, 3, TILT, 11, place)),
                             with_parts(cues, 3, ({PAN: 5, TILT: 11}, {TILT: 6}), ({RED: 0}, {RED: 9})))

    def test_what_it_told_alone_stays(self):
        cues = base()
        for place in (0, 1):
            changed = told_on(cues, 3, RED, 11, place)
            self.assertEqual(plain(changed), with_parts(cues, 3, ({PAN: 5}, {TILT: 6}), ({RED: 11}, {RED: 9})))
            self.assertEqual((shown(changed, 3)[RED], carried(changed, 3)[RED]), (9, 11))

    def test_what_the_list_shows_then(self):
        changed = told_on(base(), 1, RED, 50)
        self.assertEqual([carried(changed, number).get(RED, 0) for number in (0, 1, 3, 4, 5, 7)], [0, 50, 0, 0, 0, 4])
        changed = told_on(base(), 3, BLUE, 50)
        self.assertEqual([shown(changed, number).get(BLUE, 0) for number in (1, 3, 4, 5, 7)], [0, 50, 50, 8, 0])

    def test_in_a_cue_that_stops(self):
        cues = base()
        changed = told_on(cues, 5, PAN, 12)
        self.assertEqual(plain(changed), with_parts(cues, 5, ({PAN: 12}, {BLUE: 8})))
        self.assertEqual((shown(changed, 5), shown(changed, 7)), ({PAN: 12, BLUE: 8}, {PAN: 12, RED: 4}))


class ToldAlone(unittest.TestCase):
    def test_in_the_first_part_where_none_is_told_and_none_tells_it(self):
        cues = base()
        self.assertEqual(plain(told_alone(cues, 3, BLUE, 11)),
                         with_parts(cues, 3, ({PAN: 5}, {TILT: 6, BLUE: 11}), ({RED: 0}, {RED: 9})))

    def test_in_the_part_at_the_told_place(self):
        cues = base()
        self.assertEqual(plain(told_alone(cues, 3, BLUE, 11, 0)), plain(told_alone(cues, 3, BLUE, 11)))
        self.assertEqual(plain(told_alone(cues, 3, BLUE, 11, 1)),
                         with_parts(cues, 3, ({PAN: 5}, {TILT: 6}), ({RED: 0}, {RED: 9, BLUE: 11})))

    def test_in_the_part_that_tells_it_on_whatever_place_is_told(self):
        cues = base()
        for place in (0, 1):
            self.assertEqual(plain(told_alone(cues, 3, PAN, 11, place)),
                             with_parts(cues, 3, ({PAN: 5}, {TILT: 6, PAN: 11}), ({RED: 0}, {RED: 9})))

    def test_in_the_part_that_tells_it_alone_whatever_place_is_told(self):
        cues = base()
        for place in (0, 1):
            self.assertEqual(plain(told_alone(cues, 3, TILT, 11, place)),
                             with_parts(cues, 3, ({PAN: 5}, {TILT: 11}), ({RED: 0}, {RED: 9})))

    def test_what_it_told_on_stays(self):
        cues = base()
        for place in (0, 1):
            changed = told_alone(cues, 3, RED, 11, place)
            self.assertEqual(plain(changed), with_parts(cues, 3, ({PAN: 5}, {TILT: 6}), ({RED: 0}, {RED: 11})))
        changed = told_alone(cues, 1, RED, 11)
        self.assertEqual((shown(changed, 1)[RED], carried(changed, 1)[RED], shown(changed, 2)[RED]), (11, 3, 3))

    def test_what_the_list_shows_then(self):
        changed = told_alone(base(), 4, TILT, 50)
        self.assertEqual([shown(changed, number).get(TILT, 0) for number in (1, 3, 4, 5, 7)], [2, 6, 50, 0, 0])


class Telling(unittest.TestCase):
    def test_worths_at_the_edges(self):
        for worth in (0, 1, MOST):
            self.assertEqual(told_part(told_on(base(), 4, PAN, worth), 4, 0), ({PAN: worth}, {}))
            self.assertEqual(told_part(told_alone(base(), 4, PAN, worth), 4, 0), ({}, {PAN: worth}))
            self.assertEqual(told_part(told_on(base(), 1, PAN, worth), 1, 0), ({PAN: worth, TILT: 2, RED: 3}, {}))

    def test_told_as_0_is_told(self):
        changed = told_on(base(), 4, TILT, 0)
        self.assertEqual([shown(changed, number).get(TILT, 0) for number in (1, 3, 4)], [2, 6, 0])
        changed = told_alone(base(), 3, PAN, 0)
        self.assertEqual([shown(changed, number).get(PAN, 0) for number in (1, 3, 4)], [1, 0, 5])

    def test_the_same_again_tells_the_same_list(self):
        self.assertTrue(alike(told_on(base(), 3, PAN, 5), base()))
        self.assertTrue(alike(told_alone(base(), 3, TILT, 6, 1), base()))

    def test_a_cue_of_nine_parts(self):
        parts = [Part({}, {}, place) for place in range(9)]
        for place in range(9):
            for tell in TELLINGS:
                changed = tell([Cue(1, parts)], 1, PAN, 5, place)
                told = [part.rise for part in changed[0].parts if PAN in part.tells or PAN in part.alone]
                self.assertEqual((told, len(changed[0].parts)), ([place], 9))
                self.assertEqual([part.rise for part in changed[0].parts], list(range(9)))

    def test_one_part_at_several_places(self):
        same = Part({}, {}, 5)
        for place in range(3):
            for tell in TELLINGS:
                changed = tell([Cue(1, [same, same, same])], 1, PAN, 7, place)
                told = [PAN in part.tells or PAN in part.alone for part in changed[0].parts]
                self.assertEqual(told, [one == place for one in range(3)])

    def test_first_and_last_cue(self):
        for tell in TELLINGS:
            for number in (1, 7):
                rows = plain(tell(base(), number, BLUE, 5))
                others = [row for row in rows if row[0] != number]
                self.assertEqual(others, [row for row in plain(base()) if row[0] != number])
                self.assertEqual([row[0] for row in rows], [1, 3, 4, 5, 7])


class Untold(unittest.TestCase):
    def test_neither_on_nor_alone(self):
        cues = base()
        self.assertEqual(plain(untold(cues, 3, PAN)), with_parts(cues, 3, ({}, {TILT: 6}), ({RED: 0}, {RED: 9})))
        self.assertEqual(plain(untold(cues, 3, TILT)), with_parts(cues, 3, ({PAN: 5}, {}), ({RED: 0}, {RED: 9})))
        self.assertEqual(plain(untold(cues, 3, RED)), with_parts(cues, 3, ({PAN: 5}, {TILT: 6}), ({}, {})))

    def test_what_is_not_told(self):
        self.assertTrue(alike(untold(base(), 3, BLUE), base()))
        self.assertTrue(alike(untold(base(), 4, PAN), base()))

    def test_the_stop_stays(self):
        changed = untold(base(), 5, BLUE)
        self.assertEqual(plain(changed), with_parts(base(), 5, ({}, {})))
        self.assertEqual((shown(changed, 5), changed[3].stops, changed[3].follow), ({}, True, 0))

    def test_what_is_carried_is_shown_again(self):
        changed = untold(base(), 3, PAN)
        self.assertEqual([shown(changed, number).get(PAN, 0) for number in (1, 3, 4, 5)], [1, 1, 1, 0])
        changed = untold(base(), 3, RED)
        self.assertEqual([shown(changed, number).get(RED, 0) for number in (1, 3, 4, 5)], [3, 3, 3, 0])

    def test_other_cues_go_on_telling_it(self):
        changed = untold(base(), 1, RED)
        self.assertEqual(plain(changed)[1:], plain(base())[1:])
        self.assertEqual(told_part(changed, 1, 0), ({PAN: 1, TILT: 2}, {}))


class Stopped(unittest.TestCase):
    def test_made_to_stop(self):
        for changed in (stopped(base(), 4), stopped(base(), 4, True)):
            rows = plain(base())
            rows[2] = (4, [({}, {}, 0, 0, 0)], True, None)
            self.assertEqual(plain(changed), rows)
            self.assertEqual([shown(changed, number) for number in (3, 4)], [shown(base(), 3), {}])
            self.assertIs(changed[2].stops, True)

    def test_made_not_to_stop(self):
        changed = stopped(base(), 5, False)
        rows = plain(base())
        rows[3] = (5, [({}, {BLUE: 8}, 7, 8, 9)], False, 0)
        self.assertEqual(plain(changed), rows)
        self.assertEqual(shown(changed, 5), {PAN: 5, TILT: 2, BLUE: 8})
        self.assertIs(changed[3].stops, False)

    def test_as_it_is_already(self):
        self.assertTrue(alike(stopped(base(), 5), base()))
        self.assertTrue(alike(stopped(base(), 4, False), base()))

    def test_tellings_stay(self):
        changed = stopped(base(), 3)
        rows = plain(base())
        rows[1] = rows[1][:2] + (True, 700)
        self.assertEqual(plain(changed), rows)
        self.assertEqual(carried(changed, 3), {PAN: 5})
        self.assertTrue(alike(stopped(changed, 3, False), base()))


class PutIn(unittest.TestCase):
    def test_each_place(self):
        for number in (2, 6, 8, MOST):
            changed = put_in(base(), on(number, {PAN: 77}, 1, 2, 3, 4))
            self.assertEqual(plain(changed), sorted(plain(base()) + plain([on(number, {PAN: 77}, 1, 2, 3, 4)]),
                                                    key=lambda row: row[0]))
            self.assertEqual(shown(changed, number)[PAN], 77)
            self.assertEqual(plain(cue_list(changed)), plain(changed))

    def test_ahead_of_all(self):
        changed = put_in([cue(2), cue(3)], cue(1))
        self.assertEqual([one.number for one in changed], [1, 2, 3])

    def test_into_a_list_without_cues(self):
        self.assertEqual(plain(put_in([], on(9, {PAN: 1}))), plain([on(9, {PAN: 1})]))

    def test_a_cue_that_stops(self):
        changed = put_in(base(), Cue(2, [Part({TILT: 9}, {})], True))
        self.assertEqual((shown(changed, 2), shown(changed, 4)), ({TILT: 9}, {TILT: 9, PAN: 5}))

    def test_a_number_that_is_had(self):
        for number in (1, 3, 4, 5, 7):
            cues = base()
            refused(self, NoCue, put_in, cues, on(number, {PAN: 1}))
            refused(self, NoCue, put_in, cues, [one for one in cues if one.number == number][0])
            self.assertTrue(alike(cues, base()))

    def test_what_is_no_cue(self):
        for thing in ODD + TUPLES + LISTS + DICTS + TEXTS + NUMBERS + WRONG_NUMBERS + [[cue(2)], Part({}, {}), 2]:
            refused(self, NoCue, put_in, base(), thing)
            refused(self, NoCue, put_in, [], thing)


class TakenOut(unittest.TestCase):
    def test_without_keeping_nothing_else_is_changed(self):
        for number in (1, 3, 4, 5, 7):
            for changed in (taken_out(base(), number), taken_out(base(), number, False)):
                self.assertEqual(plain(changed), [row for row in plain(base()) if row[0] != number])

    def test_the_only_one(self):
        for keep in (False, True):
            self.assertEqual(taken_out([on(4, {PAN: 1})], 4, keep), [])

    def test_kept_by_the_next_cue(self):
        changed = taken_out(base(), 3, True)
        rows = [row for row in plain(base()) if row[0] != 3]
        rows[1] = (4, [({PAN: 5, RED: 0}, {}, 0, 0, 0)], False, None)
        self.assertEqual(plain(changed), rows)
        self.assertEqual([shown(changed, number) for number in (4, 5, 7)],
                         [shown(base(), number) for number in (4, 5, 7)])

    def test_nothing_to_keep_behind_the_last(self):
        self.assertEqual(plain(taken_out(base(), 7, True)), plain(base())[:-1])

    def test_nothing_to_keep_ahead_of_a_cue_that_stops(self):
        self.assertEqual(plain(taken_out(told_on(base(), 4, PAN, 99), 4, True)),
                         [row for row in plain(base()) if row[0] != 4])

    def test_what_was_told_alone_is_not_kept(self):
        cues = [on(1, {PAN: 1}), Cue(2, [Part({}, {PAN: 5, RED: 6})]), cue(3)]
        self.assertEqual(plain(taken_out(cues, 2, True)), plain([on(1, {PAN: 1}), cue(3)]))

    def test_carried_and_not_shown_is_kept(self):
        cues = [Cue(1, [Part({PAN: 1}, {PAN: 50})]), Cue(2, [Part({}, {PAN: 60})]), cue(3)]
        changed = taken_out(cues, 1, True)
        self.assertEqual(plain(changed), plain([Cue(2, [Part({PAN: 1}, {PAN: 60})]), cue(3)]))
        self.assertEqual([shown(changed, number) for number in (2, 3)], [{PAN: 60}, {PAN: 1}])

    def test_kept_in_the_part_that_tells_it_alone(self):
        cues = [on(1, {PAN: 1, RED: 2, BLUE: 3}), Cue(2, [Part({}, {RED: 9}), Part({}, {PAN: 60}, 5)])]
        self.assertEqual(plain(taken_out(cues, 1, True)),
                         plain([Cue(2, [Part({RED: 2, BLUE: 3}, {RED: 9}), Part({PAN: 1}, {PAN: 60}, 5)])]))

    def test_kept_in_the_first_part_if_no_part_tells_it(self):
        cues = [on(1, {PAN: 1}), Cue(2, [Part({}, {}, 1), Part({}, {}, 2), Part({RED: 1}, {}, 3)])]
        self.assertEqual(plain(taken_out(cues, 1, True)),
                         plain([Cue(2, [Part({PAN: 1}, {}, 1), Part({}, {}, 2), Part({RED: 1}, {}, 3)])]))

    def test_what_the_next_tells_on_stays_as_it_is(self):
        cues = [on(1, {PAN: 1, RED: 2}), on(2, {PAN: 7}), cue(3)]
        self.assertEqual(plain(taken_out(cues, 1, True)), plain([on(2, {PAN: 7, RED: 2}), cue(3)]))
        cues = [on(1, {PAN: 1}), on(2, {PAN: 0}), cue(3)]
        self.assertEqual(plain(taken_out(cues, 1, True)), plain([on(2, {PAN: 0}), cue(3)]))

    def test_what_is_carried_alike_without_it_is_not_told(self):
        cues = [on(1, {PAN: 1}), on(2, {PAN: 1, TILT: 0}), cue(3)]
        self.assertEqual(plain(taken_out(cues, 2, True)), plain([on(1, {PAN: 1}), cue(3)]))

    def test_a_cue_that_stops_leaves_0_behind(self):
        cues = [on(1, {PAN: 1, RED: 2, TILT: 3}), Cue(2, [Part({RED: 2, TILT: 4}, {})], True), cue(3), cue(4)]
        changed = taken_out(cues, 2, True)
        self.assertEqual(plain(changed), plain([on(1, {PAN: 1, RED: 2, TILT: 3}), on(3, {PAN: 0, TILT: 4}), cue(4)]))
        self.assertEqual([shown(changed, number) for number in (3, 4)], [{RED: 2, TILT: 4}, {RED: 2, TILT: 4}])

    def test_the_next_is_the_least_number_above(self):
        cues = [on(3, {PAN: 1}), cue(70), cue(MOST)]
        self.assertEqual(plain(taken_out(cues, 3, True)), plain([on(70, {PAN: 1}), cue(MOST)]))

    def test_times_and_follow_of_the_next_stay(self):
        cues = [on(1, {PAN: 1}), Cue(2, [Part({}, {}, 1, 2, 3)], False, 9)]
        self.assertEqual(plain(taken_out(cues, 1, True)), plain([Cue(2, [Part({PAN: 1}, {}, 1, 2, 3)], False, 9)]))


class Refusals(unittest.TestCase):
    def calls(self):
        """Each change, as a call of a list and a number, with what would be taken else."""
        return [lambda cues, number: told_on(cues, number, PAN, 5), lambda cues, number: untold(cues, number, PAN),
                lambda cues, number: told_alone(cues, number, PAN, 5), stopped, taken_out,
                lambda cues, number: stopped(cues, number, False), lambda cues, number: taken_out(cues, number, True)]

    def test_no_lists(self):
        for thing in no_lists():
            for call in self.calls():
                refused(self, NoList, call, thing, 1)
            refused(self, NoList, put_in, thing, cue(50))

    def test_a_list_is_refused_for_a_cue_behind_too(self):
        for call in self.calls():
            refused(self, NoList, call, base() + [cue(7)], 1)
            refused(self, NoList, call, base() + [None], 1)

    def test_no_numbers(self):
        for thing in NO_NUMBERS:
            for call in self.calls():
                refused(self, NoCue, call, base(), thing)
                refused(self, NoCue, call, [], thing)

    def test_no_slots(self):
        for thing in NO_SLOTS:
            refused(self, NoSlot, told_on, base(), 3, thing, 5)
            refused(self, NoSlot, told_alone, base(), 3, thing, 5)
            refused(self, NoSlot, untold, base(), 3, thing)

    def test_no_worths(self):
        for thing in NO_WORTHS:
            for tell in TELLINGS:
                refused(self, NoWorth, tell, base(), 3, PAN, thing)
                refused(self, NoWorth, tell, base(), 3, BLUE, thing, 1)

    def test_no_places_also_where_none_is_needed(self):
        for thing in NO_PLACES:
            for tell in TELLINGS:
                for slot in (BLUE, PAN, TILT, RED):
                    refused(self, NoPart, tell, base(), 3, slot, 5, thing)
        for tell in TELLINGS:
            refused(self, NoPart, tell, base(), 1, BLUE, 5, 1)
            refused(self, NoPart, tell, base(), 1, PAN, 5, 1)
            refused(self, NoPart, tell, [Cue(1, [Part({}, {})] * 9)], 1, PAN, 5, 9)
            refused(self, NoPart, tell, base(), 3, BLUE, 5, part=-1)

    def test_the_first_argument_s_refusal_goes_first(self):
        for tell in TELLINGS:
            refused(self, NoList, tell, None, 0, None, None, None)
            refused(self, NoList, tell, [cue(2), cue(1)], 9, PAN, 5)
            refused(self, NoCue, tell, base(), 2, None, None, None)
            refused(self, NoCue, tell, base(), None, PAN, 5, 7)
            refused(self, NoSlot, tell, base(), 3, None, None, None)
            refused(self, NoSlot, tell, base(), 3, ("spot", "up"), -1, 5)
            refused(self, NoWorth, tell, base(), 3, PAN, -1, 5)
            refused(self, NoWorth, tell, base(), 3, PAN, None, None)
        refused(self, NoList, untold, None, None, None)
        refused(self, NoCue, untold, base(), 2, None)
        refused(self, NoList, stopped, None, None)
        refused(self, NoList, taken_out, None, None)
        refused(self, NoList, put_in, None, None)
        refused(self, NoList, put_in, [cue(2), cue(1)], cue(1))

    def test_what_is_refused_changes_nothing(self):
        cues = base()
        handed = list(cues)
        for tell in TELLINGS:
            refused(self, NoPart, tell, cues, 3, BLUE, 5, 2)
            refused(self, NoWorth, tell, cues, 3, PAN, -5)
        refused(self, NoSlot, untold, cues, 3, "pan")
        refused(self, NoCue, taken_out, cues, 2, True)
        refused(self, NoCue, put_in, cues, cue(3))
        self.assertEqual((cues, plain(cues)), (handed, plain(base())))


class Ownership(unittest.TestCase):
    def changes(self, cues):
        return [told_on(cues, 3, PAN, 50), told_on(cues, 3, PAN, 5), told_alone(cues, 3, RED, 50),
                told_alone(cues, 3, TILT, 6), untold(cues, 3, PAN), untold(cues, 3, BLUE), stopped(cues, 3),
                stopped(cues, 3, False), put_in(cues, cue(2)), put_in(cues, cue(9)), taken_out(cues, 3),
                taken_out(cues, 7, True), taken_out(cues, 3, True)]

    def test_the_list_handed_in_stays(self):
        cues = base()
        handed = list(cues)
        self.changes(cues)
        self.assertEqual(cues, handed)
        self.assertEqual(plain(cues), plain(base()))

    def test_a_new_list_each_time_that_is_not_bound_to_the_one_handed_in(self):
        cues = base()
        changed = self.changes(cues)
        again = [plain(one) for one in changed]
        self.assertEqual(len({id(one) for one in changed + [cues]}), len(changed) + 1)
        cues.clear()
        self.assertEqual([plain(one) for one in changed], again)
        cues = base()
        for one in self.changes(cues):
            self.assertIs(type(one), list)
            one.clear()
            self.assertEqual(plain(cues), plain(base()))

    def test_changes_of_the_changed(self):
        cues = base()
        one = told_on(cues, 4, PAN, 10)
        two = told_on(one, 4, PAN, 20)
        three = told_alone(two, 4, PAN, 30)
        self.assertEqual([told_part(some, 4, 0) for some in (cues, one, two, three)],
                         [({}, {}), ({PAN: 10}, {}), ({PAN: 20}, {}), ({PAN: 20}, {PAN: 30})])
        self.assertTrue(alike(untold(three, 4, PAN), cues))
        self.assertTrue(alike(taken_out(put_in(cues, cue(2)), 2), cues))

    def test_the_list_s_own_parts_are_not_shared_out(self):
        parts = [Part({PAN: 1}, {})]
        one = Cue(1, parts)
        changed = [told_on([one], 1, TILT, 5), stopped([one], 1), untold([one], 1, RED)]
        self.assertEqual(one.parts, parts)
        for cues in changed:
            self.assertIsNot(cues[0].parts, one.parts)


class Arguments(unittest.TestCase):
    def test_names_and_defaults(self):
        for tell in TELLINGS:
            self.assertEqual(arguments_of(tell), ["cues", "number", "slot", "worth", ("part", 0)])
        self.assertEqual(arguments_of(untold), ["cues", "number", "slot"])
        self.assertEqual(arguments_of(stopped), ["cues", "number", ("stops", True)])
        self.assertEqual(arguments_of(put_in), ["cues", "cue"])
        self.assertEqual(arguments_of(taken_out), ["cues", "number", ("keep", False)])

    def test_by_names(self):
        self.assertEqual(told_part(told_on(part=1, worth=5, slot=BLUE, number=3, cues=base()), 3, 1),
                         ({RED: 0, BLUE: 5}, {RED: 9}))
        self.assertEqual(told_part(told_alone(part=1, worth=5, slot=BLUE, number=3, cues=base()), 3, 1),
                         ({RED: 0}, {RED: 9, BLUE: 5}))
        self.assertTrue(alike(untold(slot=BLUE, number=3, cues=base()), base()))
        self.assertTrue(alike(stopped(stops=True, number=5, cues=base()), base()))
        self.assertEqual([one.number for one in put_in(cue=cue(2), cues=base())], [1, 2, 3, 4, 5, 7])
        self.assertEqual([one.number for one in taken_out(keep=True, number=7, cues=base())], [1, 3, 4, 5])


class AgainstThePlainTelling(unittest.TestCase):
    def some(self, count):
        """Lists of all sorts with one of their cues."""
        for seed in range(count):
            chance = random.Random(seed + 30000)
            cues = some_list(seed)
            if cues:
                yield chance, cues, chance.choice(cues)

    def test_told_on_and_alone(self):
        for chance, cues, one in self.some(400):
            for slot in slots_of(cues):
                for way, tell in enumerate(TELLINGS):
                    worth = chance.choice((0, 1, 500, MOST))
                    place = chance.randrange(len(one.parts))
                    rows = plain(cues)
                    plainly_told(rows, one.number, slot, worth, place, way)
                    self.assertEqual(plain(tell(cues, one.number, slot, worth, place)), rows)

    def test_untold_and_stopped(self):
        for chance, cues, one in self.some(400):
            for slot in slots_of(cues):
                rows = plain(cues)
                for row in rows:
                    for part in row[1] if row[0] == one.number else []:
                        part[0].pop(slot, None)
                        part[1].pop(slot, None)
                self.assertEqual(plain(untold(cues, one.number, slot)), rows)
            stops = chance.choice((True, False))
            rows = [row[:2] + (stops if row[0] == one.number else row[2],) + row[3:] for row in plain(cues)]
            self.assertEqual(plain(stopped(cues, one.number, stops)), rows)

    def test_put_in_and_taken_out(self):
        for chance, cues, one in self.some(400):
            number = chance.choice([number for number in range(1, 27) if all(one.number != number for one in cues)])
            new = some_cue(chance, number, slots_of(cues), (0, 5, MOST), (None, 7))
            changed = put_in(cues, new)
            self.assertEqual(plain(changed), sorted(plain(cues) + plain([new]), key=lambda row: row[0]))
            self.assertEqual(plain(taken_out(changed, number)), plain(cues))
            self.assertEqual(plain(taken_out(cues, one.number)),
                             [row for row in plain(cues) if row[0] != one.number])

    def test_taken_out_with_keeping(self):
        kept = 0
        for chance, cues, one in self.some(1200):
            changed = taken_out(cues, one.number, True)
            self.assertEqual(plain(changed), plainly_kept(cues, one.number))
            kept += plain(changed) != plain(taken_out(cues, one.number))
            for other in cues:
                if other.number != one.number:
                    for slot in slots_of(cues):
                        self.assertEqual(plainly_shown(changed, other.number, slot),
                                         plainly_shown(cues, other.number, slot))
        self.assertGreater(kept, 200)


if __name__ == "__main__":
    unittest.main()
