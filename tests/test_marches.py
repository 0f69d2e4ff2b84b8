import inspect
import unittest
from fractions import Fraction

from helper import (MOST, PlainTelling, cue, no_lists, on, plain, refused, short_list, some_deeds, some_list,
                    some_moments)
from lampcues.errors import Late, NoList
from lampcues.marches import rows_of


def followed(number, follow):
    return on(number, {}, follow=follow)


def some_cues(*numbers):
    return [cue(number) for number in numbers]


def trail(cues, deeds, top, bottom=1):
    """The rows behind the first one, without their lists."""
    rows = rows_of(cues, deeds, top, bottom)[0]
    return [(row[0], row[2], row[3]) for row in rows[1:]]


def clock(cues, deeds, top, bottom=1):
    return rows_of(cues, deeds, top, bottom)[1:]


class Form(unittest.TestCase):
    def test_arguments(self):
        given = inspect.signature(rows_of).parameters
        self.assertEqual(list(given), ["cues", "deeds", "top", "bottom"])
        self.assertEqual([one.default for one in given.values()][2:], [inspect.Parameter.empty, 1])
        self.assertEqual(rows_of(bottom=2, top=3, deeds=[], cues=[]), ([(0, [], 0, "list")], 3, 2))

    def test_no_deeds(self):
        cues = some_cues(3, 5)
        for top in (0, 1, 1000, 10 ** 12):
            told = rows_of(cues, [], top)
            self.assertEqual(told, ([(0, cues, 0, "list")], top, 1))
            self.assertIs(type(told), tuple)
            self.assertIs(type(told[0]), list)
            self.assertIs(type(told[0][0]), tuple)
            self.assertIs(type(told[0][0][1]), list)

    def test_rows_have_clock_list_number_and_word(self):
        cues = some_cues(3, 5)
        others = some_cues(4)
        deeds = [(10, "go"), (20, "goto", 5), (30, "list", others), (40, "back")]
        self.assertEqual(rows_of(cues, deeds, 50), (
            [(0, cues, 0, "list"), (10, cues, 3, "go"), (20, cues, 5, "go"), (30, others, 5, "list"),
             (40, others, 4, "back")], 50, 1))

    def test_told_up_to_the_moment_and_with_what_comes_at_it(self):
        cues = some_cues(1, 2, 3)
        deeds = [(10, "go"), (10, "go"), (11, "go")]
        self.assertEqual(trail(cues, deeds, 9), [])
        self.assertEqual(trail(cues, deeds, 19, 2), [])
        self.assertEqual(trail(cues, deeds, 20, 2), [(10, 1, "go"), (10, 2, "go")])
        self.assertEqual(trail(cues, deeds, 10), [(10, 1, "go"), (10, 2, "go")])
        self.assertEqual(trail(cues, deeds, 32, 3), [(10, 1, "go"), (10, 2, "go")])
        self.assertEqual(trail(cues, deeds, 11), [(10, 1, "go"), (10, 2, "go"), (11, 3, "go")])

    def test_deeds_at_the_beginning(self):
        cues = some_cues(1)
        self.assertEqual(rows_of(cues, [(0, "go")], 0), ([(0, cues, 0, "list"), (0, cues, 1, "go")], 0, 1))
        self.assertEqual(rows_of(cues, [(0, "list", [])], 0), ([(0, cues, 0, "list"), (0, [], 0, "list")], 0, 1))

    def test_deeds_of_one_tick_in_their_order(self):
        cues = some_cues(1, 2, 5)
        self.assertEqual(trail(cues, [(7, "go"), (7, "back"), (7, "goto", 5)], 7),
                         [(7, 1, "go"), (7, 0, "back"), (7, 5, "go")])
        self.assertEqual(trail(cues, [(7, "goto", 5), (7, "go"), (7, "back")], 7), [(7, 5, "go"), (7, 2, "back")])

    def test_great_numbers(self):
        cues = [followed(MOST - 1, MOST), cue(MOST)]
        deeds = [(10 ** 12 - 3 * MOST, "go")]
        begun = 10 ** 12 - 3 * MOST
        self.assertEqual(trail(cues, deeds, 10 ** 12), [(begun, MOST - 1, "go"), (begun + MOST, MOST, "go")])
        most = (begun + MOST) * MOST
        self.assertEqual(trail(cues, deeds, most - 1, MOST), [(begun, MOST - 1, "go")])
        self.assertEqual(trail(cues, deeds, most, MOST), [(begun, MOST - 1, "go"), (begun + MOST, MOST, "go")])


class Marches(unittest.TestCase):
    def test_go_comes_to_the_least_above(self):
        deeds = [(tick, "go") for tick in range(1, 6)]
        self.assertEqual(trail(some_cues(2, 3, 9), deeds, 9), [(1, 2, "go"), (2, 3, "go"), (3, 9, "go")])

    def test_back_comes_to_the_greatest_below_or_to_nought(self):
        deeds = [(1, "goto", 9), (2, "back"), (3, "back"), (4, "back"), (5, "back")]
        self.assertEqual(trail(some_cues(2, 3, 9), deeds, 9),
                         [(1, 9, "go"), (2, 3, "back"), (3, 2, "back"), (4, 0, "back")])

    def test_goto_comes_to_the_number_told(self):
        deeds = [(1, "goto", 3), (2, "goto", 9), (3, "goto", 2), (4, "goto", 2)]
        self.assertEqual(trail(some_cues(2, 3, 9), deeds, 9), [(1, 3, "go"), (2, 9, "go"), (3, 2, "go"), (4, 2, "go")])

    def test_goto_to_a_number_that_no_cue_has(self):
        for number in (0, 1, 4, 10, MOST, MOST + 1, 10 ** 30, -1, -3, -10 ** 30):
            self.assertEqual(trail(some_cues(2, 3, 9), [(1, "goto", 3), (2, "goto", number)], 9), [(1, 3, "go")])

    def test_in_a_list_without_cues(self):
        deeds = [(1, "go"), (2, "back"), (3, "goto", 1), (4, "stop"), (6, "on"), (7, "go")]
        self.assertEqual(rows_of([], deeds, 17, 2), ([(0, [], 0, "list")], 13, 2))
        self.assertEqual(rows_of([], deeds, 17), ([(0, [], 0, "list")], 15, 1))

    def test_back_behind_a_go(self):
        for seed in range(200):
            numbers = [one.number for one in some_list(seed)]
            cues = some_cues(*numbers)
            for stood in ([0] + numbers)[:-1]:
                deeds = [(1, "goto", stood), (2, "go"), (3, "back")]
                self.assertEqual(trail(cues, deeds, 5)[-1], (3, stood, "back"))

    def test_back_behind_a_go_from_a_number_that_no_cue_has(self):
        deeds = [(1, "go"), (2, "list", some_cues(2, 6)), (3, "go"), (4, "back")]
        self.assertEqual(trail(some_cues(5), deeds, 5), [(1, 5, "go"), (2, 5, "list"), (3, 6, "go"), (4, 2, "back")])


class Clock(unittest.TestCase):
    def test_goes_with_the_moments(self):
        for top, bottom in ((0, 1), (1, 1), (3, 2), (6, 4), (5, 7), (10 ** 12, 1), (10 ** 21 - 1, 10 ** 9)):
            self.assertEqual(clock(some_cues(1), [], top, bottom), (top, bottom))
            self.assertEqual(clock(some_cues(1), [(0, "go")], top, bottom), (top, bottom))
            self.assertEqual(clock(some_cues(1), [(0, "on")], top, bottom), (top, bottom))

    def test_stands_while_it_is_stopped(self):
        deeds = [(10, "stop"), (25, "on")]
        for top, shows in ((0, 0), (9, 9), (10, 10), (11, 10), (24, 10), (25, 10), (26, 11), (40, 25)):
            self.assertEqual(clock([], deeds, top), (shows, 1))
        for top, shows in ((29, 29), (30, 30), (31, 30), (74, 30), (75, 30), (76, 31), (77, 32), (120, 75)):
            self.assertEqual(clock([], deeds, top, 3), (shows, 3))

    def test_what_does_nothing_to_it(self):
        deeds = [(5, "on"), (10, "stop"), (13, "stop"), (25, "on"), (27, "on"), (30, "stop"), (30, "stop"), (30, "on")]
        for top, shows in ((7, 7), (12, 10), (14, 10), (24, 10), (26, 11), (29, 14), (30, 15), (40, 25)):
            self.assertEqual(clock([], deeds, top), (shows, 1))

    def test_stopped_several_times(self):
        deeds = [(10, "stop"), (15, "on"), (20, "stop"), (40, "on"), (41, "stop")]
        for top, shows in ((10, 10), (18, 13), (20, 15), (39, 15), (41, 16), (99, 16)):
            self.assertEqual(clock([], deeds, top), (shows, 1))
            self.assertEqual(clock([], deeds, top * 6, 6), (shows * 6, 6))

    def test_stopped_at_the_beginning(self):
        self.assertEqual(clock([], [(0, "stop")], 12, 5), (0, 5))
        self.assertEqual(trail(some_cues(1), [(0, "stop"), (7, "go"), (9, "go")], 12), [(0, 1, "go")])
        self.assertEqual(clock(some_cues(1), [(0, "stop"), (7, "go")], 12), (5, 1))

    def test_a_march_lets_it_go_on_from_what_it_shows(self):
        cues = some_cues(1, 2, 3)
        for deed, number in (((30, "go"), 3), ((30, "back"), 1), ((30, "goto", 2), 2), ((30, "goto", 1), 1)):
            deeds = [(1, "goto", 2), (10, "stop"), deed]
            word = "back" if deed[1] == "back" else "go"
            self.assertEqual(trail(cues, deeds, 30)[1:], [(10, number, word)])
            self.assertEqual(clock(cues, deeds, 30), (10, 1))
            self.assertEqual(clock(cues, deeds, 63, 2), (23, 2))

    def test_a_march_that_does_nothing_leaves_it_stopped(self):
        for begin, deed in (((1, "goto", 3), (30, "go")), ((1, "on"), (30, "back")), ((1, "go"), (30, "goto", 4)),
                            ((1, "go"), (30, "goto", 0)), ((1, "go"), (30, "goto", -1))):
            deeds = [begin, (10, "stop"), deed]
            self.assertEqual(clock(some_cues(1, 2, 3), deeds, 63, 2), (20, 2))
            self.assertEqual(trail(some_cues(1, 2, 3), deeds, 40), trail(some_cues(1, 2, 3), [begin], 40))

    def test_a_list_deed_leaves_it_as_it_is(self):
        deeds = [(5, "list", []), (10, "stop"), (20, "list", some_cues(1)), (30, "on"), (33, "list", [])]
        self.assertEqual(trail([], deeds, 40), [(5, 0, "list"), (10, 0, "list"), (13, 0, "list")])
        self.assertEqual([clock([], deeds, top)[0] for top in (7, 15, 20, 25, 30, 34)], [7, 10, 10, 10, 10, 14])

    def test_rows_bear_what_it_showed(self):
        deeds = [(10, "go"), (12, "stop"), (20, "on"), (21, "go"), (22, "stop"), (40, "list", some_cues(9)),
                 (50, "go"), (55, "back")]
        self.assertEqual(trail(some_cues(1, 2), deeds, 60),
                         [(10, 1, "go"), (13, 2, "go"), (14, 2, "list"), (14, 9, "go"), (19, 0, "back")])


class FollowOns(unittest.TestCase):
    def test_comes_as_the_clock_comes_to_it(self):
        cues = [followed(1, 20), cue(4), cue(7)]
        deeds = [(10, "go")]
        self.assertEqual(trail(cues, deeds, 29), [(10, 1, "go")])
        self.assertEqual(trail(cues, deeds, 59, 2), [(10, 1, "go")])
        for top, bottom in ((30, 1), (60, 2), (61, 2), (31, 1), (1000, 1)):
            self.assertEqual(trail(cues, deeds, top, bottom), [(10, 1, "go"), (30, 4, "go")])

    def test_set_by_a_goto_too(self):
        cues = [cue(1), followed(4, 20), cue(7)]
        self.assertEqual(trail(cues, [(10, "goto", 4)], 99), [(10, 4, "go"), (30, 7, "go")])
        self.assertEqual(trail(cues, [(10, "goto", 4), (15, "goto", 4)], 99),
                         [(10, 4, "go"), (15, 4, "go"), (35, 7, "go")])

    def test_set_by_no_back(self):
        cues = [followed(1, 20), cue(4), cue(7)]
        deeds = [(10, "goto", 4), (12, "back")]
        self.assertEqual(trail(cues, deeds, 99), [(10, 4, "go"), (12, 1, "back")])

    def test_set_by_no_list_deed(self):
        deeds = [(10, "go"), (12, "list", [followed(1, 20), cue(4)])]
        self.assertEqual(trail([cue(1), cue(4)], deeds, 99), [(10, 1, "go"), (12, 1, "list")])

    def test_a_chain(self):
        cues = [followed(1, 5), followed(2, 7), followed(3, 1), cue(4), cue(5)]
        whole = [(10, 1, "go"), (15, 2, "go"), (22, 3, "go"), (23, 4, "go")]
        for top, count in ((10, 1), (14, 1), (15, 2), (21, 2), (22, 3), (23, 4), (24, 4), (10 ** 6, 4)):
            self.assertEqual(trail(cues, [(10, "go")], top), whole[:count])

    def test_a_chain_in_no_time(self):
        cues = [followed(1, 0), followed(2, 0), followed(3, 6), followed(5, 0), cue(6), cue(7)]
        begun = [(10, 1, "go"), (10, 2, "go"), (10, 3, "go")]
        for top, bottom in ((10, 1), (15, 1), (31, 2)):
            self.assertEqual(trail(cues, [(10, "go")], top, bottom), begun)
        self.assertEqual(trail(cues, [(10, "go")], 16), begun + [(16, 5, "go"), (16, 6, "go")])
        self.assertEqual(trail(cues, [(10, "go"), (10, "go")], 16), begun + [(10, 5, "go"), (10, 6, "go")])

    def test_a_chain_in_no_time_through_all_cues(self):
        cues = [followed(number, 0) for number in range(1, 101)]
        self.assertEqual(trail(cues, [(3, "go")], 3), [(3, number, "go") for number in range(1, 101)])
        self.assertEqual(trail(cues, [(3, "go"), (3, "go"), (3, "back")], 3)[100:], [(3, 99, "back")])

    def test_each_other_march_leaves_none_due(self):
        cues = [followed(1, 20), cue(4), cue(7)]
        self.assertEqual(trail(cues, [(10, "go"), (15, "go")], 99), [(10, 1, "go"), (15, 4, "go")])
        self.assertEqual(trail(cues, [(10, "go"), (15, "goto", 7)], 99), [(10, 1, "go"), (15, 7, "go")])
        self.assertEqual(trail(cues, [(10, "go"), (15, "back")], 99), [(10, 1, "go"), (15, 0, "back")])

    def test_one_is_due_at_a_time(self):
        cues = [followed(1, 20), followed(4, 20), cue(7), cue(9)]
        self.assertEqual(trail(cues, [(10, "go"), (15, "go")], 99), [(10, 1, "go"), (15, 4, "go"), (35, 7, "go")])

    def test_what_does_nothing_leaves_it_due(self):
        cues = [followed(1, 20), cue(4)]
        for deed in ((15, "goto", 5), (15, "goto", 0), (15, "on"), (15, "list", cues)):
            rows = [row for row in trail(cues, [(10, "go"), deed], 99) if row[2] == "go"]
            self.assertEqual(rows, [(10, 1, "go"), (30, 4, "go")])
        # A go with no cue above leaves one due, too: there may be a cue as it comes.
        deeds = [(10, "go"), (15, "go"), (20, "list", [cue(8)])]
        self.assertEqual(trail([followed(1, 20)], deeds, 99), [(10, 1, "go"), (20, 1, "list"), (30, 8, "go")])

    def test_comes_ahead_of_a_deed_of_its_tick(self):
        cues = [followed(1, 20), cue(4), cue(7)]
        for deed, behind in (((30, "go"), [(30, 7, "go")]), ((30, "back"), [(30, 1, "back")]),
                             ((30, "goto", 1), [(30, 1, "go"), (50, 4, "go")]), ((30, "stop"), []), ((30, "on"), []),
                             ((30, "list", []), [(30, 4, "list")]), ((30, "goto", 5), [])):
            self.assertEqual(trail(cues, [(10, "go"), deed], 99), [(10, 1, "go"), (30, 4, "go")] + behind)

    def test_comes_behind_a_deed_of_an_earlier_tick(self):
        cues = [followed(1, 20), cue(4), cue(7)]
        for deed, rows in (((29, "go"), [(29, 4, "go")]), ((29, "back"), [(29, 0, "back")]), ((29, "stop"), []),
                           ((29, "list", []), [(29, 1, "list")])):
            self.assertEqual(trail(cues, [(10, "go"), deed], 99), [(10, 1, "go")] + rows)

    def test_comes_ahead_of_a_later_deed_at_its_own_clock(self):
        cues = [followed(1, 20), followed(4, 5), cue(7), cue(9)]
        self.assertEqual(trail(cues, [(10, "go"), (50, "go")], 50),
                         [(10, 1, "go"), (30, 4, "go"), (35, 7, "go"), (50, 9, "go")])

    def test_in_no_time_ahead_of_the_next_deed_of_one_tick(self):
        cues = [followed(1, 0), cue(2), cue(3)]
        self.assertEqual(trail(cues, [(10, "go"), (10, "stop")], 99), [(10, 1, "go"), (10, 2, "go")])
        self.assertEqual(trail(cues, [(10, "go"), (10, "go")], 99), [(10, 1, "go"), (10, 2, "go"), (10, 3, "go")])
        self.assertEqual(trail(cues, [(10, "go"), (10, "back")], 99), [(10, 1, "go"), (10, 2, "go"), (10, 1, "back")])
        self.assertEqual(trail(cues, [(10, "go"), (10, "list", [])], 99),
                         [(10, 1, "go"), (10, 2, "go"), (10, 2, "list")])

    def test_where_no_cue_is_above(self):
        cues = [cue(1), followed(4, 20)]
        self.assertEqual(trail(cues, [(10, "goto", 4)], 99), [(10, 4, "go")])
        # It is gone as it has come: a list with a cue above comes too late for it.
        self.assertEqual(trail(cues, [(10, "goto", 4), (30, "list", [cue(9)])], 99), [(10, 4, "go"), (30, 4, "list")])
        self.assertEqual(trail(cues, [(10, "goto", 4), (29, "list", [cue(9)])], 99),
                         [(10, 4, "go"), (29, 4, "list"), (30, 9, "go")])

    def test_where_no_cue_is_above_the_clock_goes_on(self):
        self.assertEqual(clock([followed(4, 20)], [(10, "go")], 99, 2), (99, 2))

    def test_a_stop_amid_its_time(self):
        cues = [followed(1, 20), cue(4), cue(7)]
        stopped = [(10, "go"), (25, "stop")]
        self.assertEqual(trail(cues, stopped, 10 ** 9), [(10, 1, "go")])
        going = stopped + [(100, "on")]
        self.assertEqual(trail(cues, going, 104), [(10, 1, "go")])
        self.assertEqual(trail(cues, going, 209, 2), [(10, 1, "go")])
        self.assertEqual(trail(cues, going, 105), [(10, 1, "go"), (30, 4, "go")])
        self.assertEqual(clock(cues, going, 107), (32, 1))

    def test_a_stop_at_its_tick_comes_behind_it(self):
        cues = [followed(1, 20), followed(4, 3), cue(7)]
        deeds = [(10, "go"), (30, "stop"), (50, "on")]
        self.assertEqual(trail(cues, deeds, 49), [(10, 1, "go"), (30, 4, "go")])
        self.assertEqual(trail(cues, deeds, 53), [(10, 1, "go"), (30, 4, "go"), (33, 7, "go")])

    def test_a_march_of_a_stopped_clock_reckons_from_what_it_shows(self):
        cues = [followed(1, 20), followed(4, 8), cue(7)]
        for deed in ((100, "go"), (100, "goto", 4)):
            deeds = [(10, "go"), (25, "stop"), deed]
            self.assertEqual(trail(cues, deeds, 107), [(10, 1, "go"), (25, 4, "go")])
            self.assertEqual(trail(cues, deeds, 108), [(10, 1, "go"), (25, 4, "go"), (33, 7, "go")])

    def test_several_stops_amid_its_time(self):
        cues = [followed(1, 10), cue(2)]
        deeds = [(0, "go"), (3, "stop"), (20, "on"), (26, "stop"), (60, "on")]
        self.assertEqual(trail(cues, deeds, 60), [(0, 1, "go")])
        self.assertEqual(trail(cues, deeds, 61), [(0, 1, "go"), (10, 2, "go")])


class ListDeeds(unittest.TestCase):
    def test_one_stands_where_one_stood(self):
        cues = some_cues(2, 5)
        deeds = [(1, "goto", 5), (2, "list", some_cues(3)), (3, "list", []), (4, "list", some_cues(6, 7))]
        self.assertEqual(trail(cues, deeds, 9), [(1, 5, "go"), (2, 5, "list"), (3, 5, "list"), (4, 5, "list")])

    def test_marches_go_by_the_list_there_is(self):
        base = [(1, "goto", 5), (2, "list", some_cues(1, 3, 8, 9))]
        for deed, row in (((3, "go"), (3, 8, "go")), ((3, "back"), (3, 3, "back")), ((3, "goto", 9), (3, 9, "go"))):
            self.assertEqual(trail(some_cues(2, 5), base + [deed], 9)[2:], [row])
        for deed in ((3, "goto", 5), (3, "goto", 2)):
            self.assertEqual(trail(some_cues(2, 5), base + [deed], 9)[2:], [])

    def test_back_from_a_number_with_no_cue_below(self):
        deeds = [(1, "goto", 5), (2, "list", some_cues(6)), (3, "back"), (4, "back"), (5, "go")]
        self.assertEqual(trail(some_cues(2, 5), deeds, 9)[2:], [(3, 0, "back"), (5, 6, "go")])

    def test_a_follow_on_goes_by_the_list_there_is(self):
        cues = [followed(1, 20), cue(2)]
        deeds = [(10, "go"), (15, "list", [cue(1), followed(6, 4), cue(8)])]
        self.assertEqual(trail(cues, deeds, 99), [(10, 1, "go"), (15, 1, "list"), (30, 6, "go"), (34, 8, "go")])
        deeds = [(10, "go"), (15, "list", [])]
        self.assertEqual(trail(cues, deeds, 99), [(10, 1, "go"), (15, 1, "list")])
        deeds = [(10, "go"), (15, "list", []), (30, "list", [cue(2)])]
        self.assertEqual(trail(cues, deeds, 99), [(10, 1, "go"), (15, 1, "list"), (30, 1, "list")])

    def test_a_follow_on_stays_due_at_what_it_was_due(self):
        cues = [followed(1, 20), cue(2)]
        for follow in (None, 0, 1, 500):
            deeds = [(10, "go"), (15, "list", [followed(1, follow), cue(2)])]
            self.assertEqual(trail(cues, deeds, 29)[2:], [])
            self.assertEqual(trail(cues, deeds, 30)[2:], [(30, 2, "go")])

    def test_amid_a_stopped_follow_on_s_time(self):
        cues = [followed(1, 20), cue(2)]
        deeds = [(10, "go"), (15, "stop"), (40, "list", [cue(3)]), (50, "on")]
        self.assertEqual(trail(cues, deeds, 64), [(10, 1, "go"), (15, 1, "list")])
        self.assertEqual(trail(cues, deeds, 65), [(10, 1, "go"), (15, 1, "list"), (30, 3, "go")])

    def test_the_list_at_its_tick_is_the_later_one(self):
        deeds = [(5, "list", some_cues(2)), (5, "go"), (5, "list", some_cues(3)), (5, "go")]
        self.assertEqual(trail(some_cues(1), deeds, 5), [(5, 0, "list"), (5, 2, "go"), (5, 2, "list"), (5, 3, "go")])


class Refusals(unittest.TestCase):
    def test_no_lists(self):
        for thing in no_lists():
            refused(self, NoList, rows_of, thing, [], 0)
            refused(self, NoList, rows_of, thing, [(1, "go")], 5, 2)

    def test_falling_ticks(self):
        cues = some_cues(1, 2)
        for ticks in ((1, 0), (5, 4), (0, 5, 4), (0, 5, 5, 4, 9), (10 ** 12, 10 ** 12 - 1), (3, 2, 1), (7, 8, 9, 0)):
            for word in ("go", "back", "stop", "on"):
                deeds = [(tick, word) for tick in ticks]
                for top, bottom in ((0, 1), (4, 1), (9, 2), (10 ** 12, 1)):
                    refused(self, Late, rows_of, cues, deeds, top, bottom)
            refused(self, Late, rows_of, [], [(tick, "goto", 1) for tick in ticks], 5)
            refused(self, Late, rows_of, [], [(tick, "list", cues) for tick in ticks], 5)

    def test_falling_behind_the_moment(self):
        cues = some_cues(1, 2)
        refused(self, Late, rows_of, cues, [(1, "go"), (90, "go"), (89, "go")], 5)
        refused(self, Late, rows_of, cues, [(90, "go"), (89, "go")], 0)
        refused(self, Late, rows_of, cues, [(1, "go"), (90, "go"), (2, "go")], 5)

    def test_falling_among_deeds_that_do_nothing(self):
        refused(self, Late, rows_of, [], [(5, "go"), (4, "goto", 3)], 9)
        refused(self, Late, rows_of, [], [(5, "on"), (4, "back")], 9)

    def test_the_list_s_refusal_goes_first(self):
        for thing in (None, [cue(2), cue(1)], (), "", [None]):
            refused(self, NoList, rows_of, thing, [(5, "go"), (4, "go")], 9)

    def test_ticks_that_do_not_fall(self):
        cues = some_cues(1, 2, 3)
        self.assertEqual(trail(cues, [(5, "go"), (5, "go"), (5, "go")], 9), [(5, 1, "go"), (5, 2, "go"), (5, 3, "go")])
        self.assertEqual(trail(cues, [(5, "go"), (90, "go"), (90, "stop")], 9), [(5, 1, "go")])

    def test_what_lies_behind_the_moment_is_passed_over(self):
        cues = [followed(1, 20), cue(2)]
        deeds = [(10, "go"), (13, "stop"), (14, "list", []), (15, "back")]
        self.assertEqual(rows_of(cues, deeds, 12), ([(0, cues, 0, "list"), (10, cues, 1, "go")], 12, 1))
        self.assertEqual(rows_of(cues, deeds, 25, 2), ([(0, cues, 0, "list"), (10, cues, 1, "go")], 25, 2))


class Ownership(unittest.TestCase):
    def setUp(self):
        self.cues = [followed(1, 5), cue(2), cue(3)]
        self.others = [cue(2), cue(6)]
        self.deeds = [(1, "go"), (10, "list", self.others), (12, "go"), (14, "back")]

    def test_what_is_handed_in_stays(self):
        cues = list(self.cues)
        others = list(self.others)
        deeds = list(self.deeds)
        before = plain(cues), plain(others)
        for top in (0, 3, 10, 20):
            rows_of(self.cues, self.deeds, top)
            refused(self, Late, rows_of, self.cues, self.deeds + [(0, "go")], top)
        self.assertEqual((self.cues, self.others, self.deeds), (cues, others, deeds))
        self.assertEqual((plain(cues), plain(others)), before)

    def test_nothing_handed_in_is_kept(self):
        told = rows_of(self.cues, self.deeds, 20)
        again = rows_of(list(self.cues), [(1, "go"), (10, "list", list(self.others)), (12, "go"), (14, "back")], 20)
        self.cues.clear()
        self.others.append(cue(9))
        self.deeds.clear()
        self.assertEqual(told, again)

    def test_each_row_has_a_list_of_its_own(self):
        rows = rows_of(self.cues, self.deeds, 20)[0]
        self.assertEqual(len(rows), 6)
        self.assertEqual(len({id(row[1]) for row in rows} | {id(self.cues), id(self.others)}), 8)
        for place, row in enumerate(rows):
            others = [list(other[1]) for other in rows]
            row[1].append(cue(99))
            others[place].append(row[1][-1])
            self.assertEqual([other[1] for other in rows], others)
        self.assertEqual((len(self.cues), len(self.others)), (3, 2))

    def test_what_is_told_is_the_asker_s_own(self):
        kept = rows_of(self.cues, self.deeds, 20)
        told = rows_of(self.cues, self.deeds, 20)
        for row in told[0]:
            row[1].clear()
        told[0].clear()
        self.assertEqual(rows_of(self.cues, self.deeds, 20), kept)
        self.assertEqual(len(kept[0]), 6)
        self.assertEqual([len(row[1]) for row in kept[0]], [3, 3, 3, 2, 2, 2])


class AgainstThePlainTelling(unittest.TestCase):
    def test_rows_and_clock(self):
        for cues, deeds, top, bottom, plainly in some_moments(range(400), 20, (1, 1, 2, 3, 7, MOST)):
            rows, shows = plainly.state(Fraction(top, bottom))[:2]
            told = rows_of(cues, deeds, top, bottom)
            self.assertEqual(told[0], rows, (deeds, top, bottom))
            self.assertEqual(told[1:], (shows * bottom, bottom), (deeds, top, bottom))
            self.assertIs(type(told[1]), int)

    def test_stretched(self):
        """Whatever is told in ticks tells the same in longer ones."""
        for seed in range(150):
            cues = short_list(seed)
            deeds = [deed for deed in some_deeds(seed + 2000, cues) if deed[1] != "list"]
            longer = [followed(one.number, None if one.follow is None else one.follow * 10 ** 7) for one in cues]
            stretched = [(deed[0] * 10 ** 7,) + deed[1:] for deed in deeds]
            for top in (0, 5, 37, 90, 300):
                short = rows_of(cues, deeds, top * 10, 10)
                long = rows_of(longer, stretched, top * 10 ** 8, 10)
                self.assertEqual([(row[0] * 10 ** 7, row[2], row[3]) for row in short[0]],
                                 [(row[0], row[2], row[3]) for row in long[0]])
                self.assertEqual((short[1] * 10 ** 7, 10), long[1:])

    def test_many_deeds_and_cues(self):
        cues = [followed(number, number % 3) for number in range(1, 101)]
        deeds = [(tick, ("go", "goto", "back", "stop", "on")[tick % 5], 1 + tick % 100) for tick in range(400)]
        deeds = [deed if deed[1] == "goto" else deed[:2] for deed in deeds]
        plainly = PlainTelling(cues, deeds, 700)
        for top in (0, 100, 399, 400, 700):
            self.assertEqual(rows_of(cues, deeds, top)[0], plainly.state(Fraction(top))[0])


if __name__ == "__main__":
    unittest.main()
