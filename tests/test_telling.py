import inspect
import unittest
from fractions import Fraction

from helper import (MOST, SHORT_TIMES, SIDES, PlainTelling, cue, no_lists, on, plain, plainly_shown, refused,
                    short_list, slots_of, some_deeds, some_moments)
from lampcues.courses import Course
from lampcues.cues import Cue, Part
from lampcues.errors import Late, NoList
from lampcues.looks import shown
from lampcues.marches import rows_of
from lampcues.telling import course_of, told

BRIGHT = ("spot", "bright")
PAN = ("spot", "pan")
RED = ("wash", "red")


def steps(cues, deeds, tops, bottom=1, slot=PAN):
    """Where the slot stands at some moments, by both ways to ask for it."""
    found = []
    for top in tops:
        rows, clock, parts = rows_of(cues, deeds, top, bottom)
        step = course_of(rows, slot).at(clock, parts)
        look = told(cues, deeds, top, bottom)
        found.append(step if look.get(slot, 0) == step else (step, look))
    return found


class Form(unittest.TestCase):
    def test_arguments(self):
        self.assertEqual(list(inspect.signature(course_of).parameters), ["rows", "slot"])
        given = inspect.signature(told).parameters
        self.assertEqual(list(given), ["cues", "deeds", "top", "bottom"])
        self.assertEqual([one.default for one in given.values()][2:], [inspect.Parameter.empty, 1])
        cues = [on(1, {PAN: 10}, 10)]
        self.assertEqual(told(bottom=2, top=7, deeds=[(0, "go")], cues=cues), {PAN: 3})
        self.assertEqual(told(cues, [(0, "go")], 7), {PAN: 7})
        self.assertEqual(course_of(slot=PAN, rows=[(3, cues, 1, "go")]).at(8), 5)

    def test_kinds(self):
        course = course_of([(0, [], 0, "list")], PAN)
        self.assertIs(type(course), Course)
        self.assertEqual((course.at(0), course.aim(), course.still()), (0, 0, 0))
        self.assertIs(type(told([], [], 0)), dict)

    def test_no_rows(self):
        course = course_of([], PAN)
        self.assertEqual((course.at(9), course.aim(), course.still()), (0, 0, 0))

    def test_nothing_told(self):
        for top, bottom in ((0, 1), (7, 2), (10 ** 12, 1)):
            self.assertEqual(told([], [], top, bottom), {})
            self.assertEqual(told([on(1, {PAN: 5})], [], top, bottom), {})
            self.assertEqual(told([], [(0, "go"), (1, "back")], top, bottom), {})

    def test_a_slot_at_nought_is_in_no_look(self):
        cues = [on(1, {PAN: 10, RED: 0}, 10), on(2, {PAN: 0}, 0, 10)]
        self.assertEqual(told(cues, [(0, "go")], 0), {})
        self.assertEqual(told(cues, [(0, "go")], 1), {PAN: 1})
        self.assertEqual(told(cues, [(0, "go"), (20, "go")], 29), {PAN: 1})
        self.assertEqual(told(cues, [(0, "go"), (20, "go")], 30), {})


class Go(unittest.TestCase):
    def test_rise(self):
        cues = [on(1, {PAN: 10}, 20, 7)]
        self.assertEqual(steps(cues, [(100, "go")], (99, 100, 101, 102, 110, 119, 120, 500)),
                         [0, 0, 0, 1, 5, 9, 10, 10])

    def test_fall(self):
        cues = [on(1, {PAN: 10}), on(2, {PAN: 0}, 7, 20)]
        deeds = [(50, "go"), (100, "go")]
        self.assertEqual(steps(cues, deeds, (49, 50, 100, 102, 110, 119, 120)), [0, 10, 10, 9, 5, 1, 0])

    def test_wait(self):
        cues = [on(1, {PAN: 10}, 10, 7, 30)]
        self.assertEqual(steps(cues, [(100, "go")], (129, 130, 131, 139, 140)), [0, 0, 1, 9, 10])

    def test_parts_of_a_tick(self):
        cues = [on(1, {PAN: 10}, 4)]
        self.assertEqual(steps(cues, [(1, "go")], range(14), 3), [0, 0, 0, 0, 0, 1, 2, 3, 4, 5, 5, 6, 7, 8])

    def test_each_slot_by_its_own_part(self):
        cues = [Cue(1, [Part({BRIGHT: 10}, {}, 10), Part({PAN: 10}, {}, 20), Part({}, {RED: 10}, 40, 0, 20)])]
        deeds = [(0, "go")]
        self.assertEqual(told(cues, deeds, 9), {BRIGHT: 9, PAN: 4})
        self.assertEqual(told(cues, deeds, 40), {BRIGHT: 10, PAN: 10, RED: 5})

    def test_the_first_part_where_none_tells_the_slot(self):
        # Cue 2 stops, so it shows the slot at 0 without a telling.
        cues = [on(1, {PAN: 10}), Cue(2, [Part({}, {}, 7, 10), Part({RED: 5}, {}, 100, 100)], True)]
        self.assertEqual(steps(cues, [(0, "go"), (10, "go")], (10, 15, 20)), [10, 5, 0])
        # Cue 2 told it alone, so cue 3 shows again what is carried, without a telling.
        cues = [on(1, {PAN: 10}), Cue(2, [Part({}, {PAN: 0})]), Cue(3, [Part({}, {}, 10, 7, 5), Part({RED: 5}, {})])]
        self.assertEqual(steps(cues, [(0, "go"), (1, "go"), (10, "go")], (1, 14, 15, 20, 25)), [0, 0, 0, 5, 10])

    def test_alone_by_the_part_that_tells_it_so(self):
        cues = [Cue(1, [Part({}, {}), Part({PAN: 5}, {PAN: 10}, 10)]), cue(2)]
        self.assertEqual(steps(cues, [(0, "go"), (20, "go")], (5, 10, 19, 20)), [5, 10, 10, 5])

    def test_a_goto_goes_as_a_go(self):
        cues = [on(1, {PAN: 4}), on(2, {PAN: 10}, 20, 30, 10)]
        self.assertEqual(steps(cues, [(100, "goto", 2)], (109, 110, 120, 130)), [0, 0, 5, 10])

    def test_a_goto_back_in_the_list_goes_by_that_cue_s_times(self):
        cues = [on(1, {PAN: 4}, 0, 12), on(2, {PAN: 10}), on(3, {RED: 1})]
        self.assertEqual(steps(cues, [(0, "goto", 3), (10, "goto", 1)], (9, 10, 12, 16, 22)), [10, 10, 9, 7, 4])

    def test_a_goto_over_cues_shows_what_they_carry(self):
        cues = [on(1, {PAN: 4}), on(2, {RED: 3}), cue(3)]
        self.assertEqual(told(cues, [(5, "goto", 3)], 5), {PAN: 4, RED: 3})

    def test_a_follow_on_goes_as_a_go(self):
        cues = [on(1, {PAN: 10}, 10, follow=20), on(2, {PAN: 30}, 10, 0, 5), cue(3)]
        self.assertEqual(steps(cues, [(0, "go")], (5, 10, 19, 20, 25, 30, 35)), [5, 10, 10, 10, 10, 20, 30])
        self.assertEqual(steps(cues, [(0, "go")], (51, 52, 69), 2), [11, 12, 29])

    def test_a_chain_in_no_time(self):
        cues = [on(1, {PAN: 10}, 10, follow=0), on(2, {RED: 10}, 20, follow=0), on(3, {BRIGHT: 7})]
        self.assertEqual(told(cues, [(5, "go")], 5), {BRIGHT: 7})
        self.assertEqual(told(cues, [(5, "go")], 10), {PAN: 5, RED: 2, BRIGHT: 7})

    def test_a_chain_in_no_time_over_one_slot(self):
        # The first one's fade sets out with the second's and is forgotten; both start at 0.
        cues = [on(1, {PAN: 100}, follow=0), on(2, {PAN: 10}, 10, 70)]
        self.assertEqual(steps(cues, [(5, "go")], (5, 6, 15)), [0, 1, 10])

    def test_into_a_fade(self):
        cues = [on(1, {PAN: 100}, 100), on(2, {PAN: 10}, 7, 20)]
        self.assertEqual(steps(cues, [(0, "go"), (50, "go")], (49, 50, 60, 70)), [49, 50, 30, 10])

    def test_into_a_waiting_fade(self):
        cues = [on(1, {PAN: 100}, 100, 0, 40), on(2, {PAN: 10}, 10)]
        self.assertEqual(steps(cues, [(0, "go"), (30, "go")], (30, 35, 40, 45, 200)), [0, 5, 10, 10, 10])

    def test_a_fade_goes_on_while_the_next_one_waits(self):
        cues = [on(1, {PAN: 100}, 100), on(2, {PAN: 10}, 7, 10, 30)]
        self.assertEqual(steps(cues, [(0, "go"), (50, "go")], (60, 79, 80, 85, 90)), [60, 79, 80, 45, 10])


class AsTheAimIs(unittest.TestCase):
    def test_the_course_goes_on_as_it_was(self):
        cues = [on(1, {PAN: 100}, 100), on(2, {RED: 5}), on(3, {PAN: 100}, 10), Cue(4, [Part({}, {PAN: 100}, 5)])]
        plainly = steps(cues, [(0, "go")], range(0, 120, 7))
        for deeds in ([(20, "go")], [(20, "go"), (30, "go")], [(20, "goto", 3)], [(20, "goto", 4)], [(20, "goto", 1)],
                      [(20, "list", list(cues))], [(20, "goto", 3), (30, "back"), (40, "back")]):
            self.assertEqual(steps(cues, [(0, "go")] + deeds, range(0, 120, 7)), plainly)

    def test_a_wait_goes_on_as_it_was(self):
        cues = [on(1, {PAN: 10}, 10, 0, 50), on(2, {PAN: 10})]
        self.assertEqual(steps(cues, [(0, "go"), (20, "go")], (20, 50, 55, 60)), [0, 0, 5, 10])

    def test_no_fade_for_a_slot_at_nought_that_aims_there(self):
        cues = [on(1, {PAN: 0}, 500, 500, 500)]
        rows = rows_of(cues, [(7, "go")], 9)[0]
        self.assertEqual(course_of(rows, PAN).still(), 0)

    def test_the_aim_counts_and_not_where_it_stands(self):
        # It stands at 5 on its way to 10; a cue that shows 5 is another aim.
        cues = [on(1, {PAN: 10}, 10), on(2, {PAN: 5}, 30, 30)]
        rows = rows_of(cues, [(0, "go"), (5, "go")], 9)[0]
        course = course_of(rows, PAN)
        self.assertEqual((course.aim(), course.still(), course.at(20)), (5, 35, 5))


class Back(unittest.TestCase):
    def test_a_fall_of_a_thousand_ticks(self):
        cues = [on(1, {PAN: 100}, 7, 8, 9)]
        deeds = [(0, "go"), (500, "back")]
        self.assertEqual(steps(cues, deeds, (499, 500, 509, 510, 1000, 1499, 1500)), [100, 100, 100, 99, 50, 1, 0])

    def test_a_rise_of_a_thousand_ticks(self):
        cues = [on(1, {PAN: 100}, 7, 8, 9), on(2, {PAN: 0}, 1, 2, 3)]
        deeds = [(0, "go"), (100, "go"), (500, "back")]
        self.assertEqual(steps(cues, deeds, (499, 500, 509, 510, 1000, 1499, 1500)), [0, 0, 0, 1, 50, 99, 100])

    def test_amid_a_fade(self):
        cues = [on(1, {PAN: 100}, 100)]
        self.assertEqual(steps(cues, [(0, "go"), (50, "back")], (50, 70, 550, 1049, 1050)), [50, 49, 25, 1, 0])

    def test_a_waiting_fade_is_forgotten(self):
        cues = [on(1, {PAN: 100}, 0, 0, 60)]
        self.assertEqual(steps(cues, [(0, "go"), (50, "back")], (50, 60, 61, 2000)), [0, 0, 0, 0])

    def test_to_a_cue_shows_what_is_told_alone_there(self):
        cues = [Cue(1, [Part({PAN: 5}, {PAN: 50})]), cue(2)]
        deeds = [(0, "goto", 2), (10, "back")]
        self.assertEqual(steps(cues, deeds, (10, 1010)), [5, 50])

    def test_behind_a_go_it_stands_where_it_stood(self):
        cues = [on(1, {PAN: 50, RED: 3}), Cue(2, [Part({PAN: 7}, {BRIGHT: 9})], True), cue(3)]
        for stood in (0, 1, 2):
            ahead = [(0, "goto", stood)] if stood else []
            look = told(cues, ahead, 4000)
            self.assertEqual(told(cues, ahead + [(5000, "go"), (9000, "back")], 10000), look)
            self.assertEqual(look, shown(cues, stood))


class List(unittest.TestCase):
    def test_no_wait_rise_or_fall(self):
        cues = [on(1, {PAN: 100}, 10)]
        others = [on(1, {PAN: 30, RED: 8}, 50, 50, 50)]
        deeds = [(0, "go"), (20, "list", others)]
        self.assertEqual(told(cues, deeds, 39, 2), {PAN: 100})
        self.assertEqual(told(cues, deeds, 20), {PAN: 30, RED: 8})
        self.assertEqual(told(cues, deeds + [(30, "list", cues)], 30), {PAN: 100})
        self.assertEqual(told(cues, deeds + [(30, "list", [])], 30), {})

    def test_amid_a_fade(self):
        cues = [on(1, {PAN: 100}, 100)]
        self.assertEqual(steps(cues, [(0, "go"), (50, "list", [on(1, {PAN: 90})])], (49, 50, 51, 200)),
                         [49, 90, 90, 90])
        # Where the aim stays the fade goes on.
        self.assertEqual(steps(cues, [(0, "go"), (50, "list", [on(1, {PAN: 100})])], (49, 50, 51, 200)),
                         [49, 50, 51, 100])

    def test_amid_a_wait(self):
        cues = [on(1, {PAN: 100}, 0, 0, 80)]
        self.assertEqual(steps(cues, [(0, "go"), (50, "list", [on(1, {PAN: 90})])], (49, 50, 80, 99)), [0, 90, 90, 90])
        self.assertEqual(steps(cues, [(0, "go"), (50, "list", [on(1, {PAN: 100})])], (49, 79, 80)), [0, 0, 100])

    def test_amid_a_fade_that_is_stopped(self):
        cues = [on(1, {PAN: 100, RED: 100}, 100)]
        deeds = [(0, "go"), (50, "stop"), (70, "list", [on(1, {PAN: 7, RED: 100})])]
        self.assertEqual(told(cues, deeds, 69), {PAN: 50, RED: 50})
        self.assertEqual(told(cues, deeds, 70), {PAN: 7, RED: 50})
        self.assertEqual(told(cues, deeds + [(100, "on")], 120), {PAN: 7, RED: 70})

    def test_amid_a_follow_on_s_time(self):
        cues = [on(1, {PAN: 100}, 100, follow=60), on(2, {PAN: 0}, 0, 50)]
        others = [on(1, {PAN: 80}), on(2, {PAN: 20}, 0, 10)]
        deeds = [(0, "go"), (50, "list", others)]
        self.assertEqual(steps(cues, deeds, (49, 50, 59, 60, 65, 70)), [49, 80, 80, 80, 50, 20])

    def test_on_a_number_that_the_list_has_no_cue_for(self):
        cues = [on(2, {PAN: 100})]
        others = [Cue(1, [Part({PAN: 5}, {PAN: 6})]), on(3, {PAN: 9})]
        self.assertEqual(told(cues, [(0, "go"), (50, "list", others)], 50), {PAN: 5})

    def test_the_list_s_change_reaches_to_the_next_telling(self):
        cues = [on(1, {PAN: 1, RED: 2}), cue(2), on(3, {PAN: 4})]
        others = [on(1, {PAN: 9, RED: 2}), cue(2), on(3, {PAN: 4})]
        deeds = [(0, "go"), (1, "go"), (2, "list", others), (3, "go")]
        self.assertEqual([told(cues, deeds, top) for top in range(4)],
                         [{PAN: 1, RED: 2}, {PAN: 1, RED: 2}, {PAN: 9, RED: 2}, {PAN: 4, RED: 2}])


class Stop(unittest.TestCase):
    def test_amid_a_fade(self):
        cues = [on(1, {PAN: 100}, 100)]
        deeds = [(0, "go"), (50, "stop"), (300, "on")]
        self.assertEqual(steps(cues, deeds, (49, 50, 51, 299, 300, 301, 350, 400)), [49, 50, 50, 50, 50, 51, 100, 100])
        self.assertEqual(steps(cues, deeds, (99, 101, 601, 603), 2), [49, 50, 50, 51])

    def test_amid_a_wait(self):
        cues = [on(1, {PAN: 10}, 10, 0, 20)]
        deeds = [(0, "go"), (15, "stop"), (300, "on")]
        self.assertEqual(steps(cues, deeds, (20, 30, 299, 305, 306, 310, 315)), [0, 0, 0, 0, 1, 5, 10])

    def test_a_march_amid_a_stop_sets_out_at_what_the_clock_shows(self):
        cues = [on(1, {PAN: 100}, 100), on(2, {PAN: 0, RED: 20}, 20, 50)]
        deeds = [(0, "go"), (50, "stop"), (300, "go")]
        self.assertEqual(steps(cues, deeds, (299, 300, 310, 350)), [50, 50, 40, 0])
        self.assertEqual(steps(cues, deeds, (299, 300, 310, 350), slot=RED), [0, 0, 10, 20])
        deeds = [(0, "go"), (50, "stop"), (300, "back")]
        self.assertEqual(steps(cues, deeds, (299, 300, 800, 1300)), [50, 50, 25, 0])

    def test_amid_a_follow_on_s_time(self):
        cues = [on(1, {PAN: 100}, follow=60), on(2, {PAN: 0})]
        deeds = [(0, "go"), (50, "stop"), (300, "on")]
        self.assertEqual(steps(cues, deeds, (60, 299, 309, 310)), [100, 100, 100, 0])


class CourseOf(unittest.TestCase):
    def test_told_by_all_rows(self):
        cues = [on(1, {PAN: 10}, 10), on(2, {PAN: 30}, 20)]
        rows = [(0, cues, 0, "list"), (5, cues, 1, "go"), (30, cues, 2, "go"), (90, cues, 1, "back"),
                (95, [], 1, "list")]
        for count, aim, still in ((1, 0, 0), (2, 10, 15), (3, 30, 50), (4, 10, 1090), (5, 0, 95)):
            course = course_of(rows[:count], PAN)
            self.assertEqual((course.aim(), course.still()), (aim, still))
        self.assertEqual([course_of(rows, PAN).at(top) for top in (4, 10, 29, 40, 89, 90, 94, 95)],
                         [0, 5, 10, 20, 30, 30, 30, 0])

    def test_still_at_once_by_a_list_row(self):
        for before, behind in ((10, 30), (30, 10), (0, 5), (5, 0)):
            course = course_of([(20, [on(1, {PAN: before})], 1, "list"), (40, [on(1, {PAN: behind})], 1, "list")], PAN)
            self.assertEqual((course.at(79, 2), course.at(40), course.still()), (before, behind, 40))

    def test_a_slot_that_is_never_told(self):
        cues = [on(1, {PAN: 10}, 10)]
        course = course_of(rows_of(cues, [(0, "go")], 5)[0], RED)
        self.assertEqual((course.at(9), course.aim(), course.still()), (0, 0, 0))

    def test_alike_numbers_in_other_lists(self):
        rows = [(0, [on(1, {PAN: 10})], 1, "go"), (5, [on(1, {PAN: 20})], 1, "go"), (9, [on(1, {PAN: 10})], 1, "go")]
        self.assertEqual([course_of(rows, PAN).at(top) for top in (0, 4, 5, 8, 9)], [10, 10, 20, 20, 10])

    def test_a_list_that_comes_again(self):
        one = [on(1, {PAN: 10})]
        rows = [(0, one, 1, "list"), (5, [], 1, "list"), (9, list(one), 1, "list")]
        self.assertEqual([course_of(rows, PAN).at(top) for top in (0, 5, 9)], [10, 0, 10])

    def test_all_slots_by_their_courses(self):
        for seed in range(60):
            cues = short_list(seed)
            deeds = some_deeds(seed + 3000, cues)
            top = deeds[-1][0] * 3 + 7
            rows, clock, bottom = rows_of(cues, deeds, top, 3)
            slots = sorted({slot for row in rows for slot in slots_of(row[1])})
            look = {slot: course_of(rows, slot).at(clock, bottom) for slot in slots}
            self.assertEqual(told(cues, deeds, top, 3), {slot: look[slot] for slot in slots if look[slot]})

    def test_courses_are_the_asker_s_own(self):
        cues = [on(1, {PAN: 10}, 10)]
        rows = rows_of(cues, [(0, "go")], 5)[0]
        kept = course_of(rows, PAN)
        course_of(rows, PAN).tell(5, 0, 0, 0, 99)
        rows[1][1].clear()
        rows.clear()
        self.assertEqual((kept.at(5), kept.at(50), kept.aim()), (5, 10, 10))

    def test_rows_stay(self):
        cues = [on(1, {PAN: 10}, 10)]
        rows = rows_of(cues, [(0, "go"), (3, "back"), (4, "list", [])], 5)[0]
        before = [(row[0], list(row[1]), row[2], row[3]) for row in rows]
        course_of(rows, PAN)
        self.assertEqual(rows, before)


class Refusals(unittest.TestCase):
    def test_no_lists(self):
        for thing in no_lists():
            refused(self, NoList, told, thing, [], 0)
            refused(self, NoList, told, thing, [(1, "go")], 5, 2)

    def test_falling_ticks(self):
        cues = [on(1, {PAN: 10}, 10)]
        for deeds in ([(5, "go"), (4, "go")], [(0, "on"), (9, "stop"), (8, "stop")], [(1, "go"), (90, "go"), (2, "go")],
                      [(90, "list", []), (89, "list", [])]):
            for top, bottom in ((0, 1), (5, 1), (100, 1), (11, 2)):
                refused(self, Late, told, cues, deeds, top, bottom)

    def test_the_list_s_refusal_goes_first(self):
        for thing in (None, [cue(2), cue(1)], (), "", [None]):
            refused(self, NoList, told, thing, [(5, "go"), (4, "go")], 9)


class Ownership(unittest.TestCase):
    def test_what_is_handed_in_stays_and_is_not_kept(self):
        cues = [on(1, {PAN: 10}, 10), on(2, {PAN: 30}, 20)]
        others = [on(1, {PAN: 5})]
        deeds = [(0, "go"), (5, "list", others), (9, "back")]
        before = list(cues), plain(cues), list(others), plain(others), list(deeds)
        look = told(cues, deeds, 7)
        self.assertEqual((cues, plain(cues), others, plain(others), deeds), before)
        cues.clear()
        others.clear()
        deeds.clear()
        self.assertEqual(look, {PAN: 5})

    def test_looks_are_the_asker_s_own(self):
        cues = [on(1, {PAN: 10})]
        kept = told(cues, [(0, "go")], 7)
        look = told(cues, [(0, "go")], 7)
        look[RED] = 5
        look.pop(PAN)
        self.assertEqual((kept, told(cues, [(0, "go")], 7)), ({PAN: 10}, {PAN: 10}))
        self.assertEqual(plain(cues), plain([on(1, {PAN: 10})]))


class AgainstThePlainTelling(unittest.TestCase):
    def test_looks(self):
        for cues, deeds, top, bottom, plainly in some_moments(range(250), 6, (1, 1, 2, 3, 7)):
            look = plainly.look(Fraction(top, bottom))
            self.assertEqual(told(cues, deeds, top, bottom), look, (deeds, top, bottom))

    def test_once_all_is_still_it_stands_as_the_list_shows(self):
        for seed in range(250):
            cues = short_list(seed)
            deeds = some_deeds(seed + 5000, cues) + [(10 ** 6, "on")]
            rows = rows_of(cues, deeds, 10 ** 7)[0]
            self.assertEqual(told(cues, deeds, 10 ** 7), shown(rows[-1][1], rows[-1][2]), seed)

    def test_by_the_list_alone(self):
        """However one came to a cue: once all is still, it shows what the list shows there."""
        for seed in range(100):
            cues = [one for one in short_list(seed) if one.follow is None]
            deeds = [deed for deed in some_deeds(seed + 6000, cues) if deed[1] != "list"]
            for one in cues:
                look = told(cues, deeds + [(10 ** 6, "goto", one.number)], 10 ** 7)
                slots = slots_of(cues)
                self.assertEqual([look.get(slot, 0) for slot in slots],
                                 [plainly_shown(cues, one.number, slot) for slot in slots])

    def test_great_numbers(self):
        cues = [on(1, {PAN: MOST}, MOST, 0, MOST)]
        begun = 10 ** 12 - 3 * MOST
        self.assertEqual(steps(cues, [(begun, "go")], (begun + MOST, begun + MOST + 1, 10 ** 12 - MOST, 10 ** 12)),
                         [0, 1, MOST, MOST])
        half = (begun + MOST) * MOST + MOST // 2
        self.assertEqual(steps(cues, [(begun, "go")], (half + MOST - MOST // 2 - 1, half + MOST), MOST), [0, 1])

    def test_many_slots_cues_and_deeds(self):
        slots = [(lamp, side) for lamp in "abcdefghijklmnop" for side in SIDES]
        cues = [Cue(place + 1, [Part({slot: place + 7 for slot in slots[place % 5::5]}, {}, *SHORT_TIMES[3:6])])
                for place in range(100)]
        deeds = [(tick, "goto", 1 + tick * 37 % 100) for tick in range(0, 4000, 10)]
        plainly = PlainTelling(cues, deeds[:40], 420)
        self.assertEqual(told(cues, deeds, 397), plainly.look(Fraction(397)))
        self.assertEqual(told(cues, deeds, 10 ** 5), shown(cues, deeds[-1][2]))


if __name__ == "__main__":
    unittest.main()
