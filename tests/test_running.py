import inspect
import random
import unittest
from fractions import Fraction

from helper import (DICTS, LISTS, MOST, ODD, TEXTS, TUPLES, WRONG_NUMBERS, PlainTelling, cue, no_lists, on, plain,
                    refused, short_list, some_deeds)
from lampcues.cues import Cue, Part
from lampcues.errors import Late, NoCue, NoList
from lampcues.looks import shown
from lampcues.marches import rows_of
from lampcues.running import Run
from lampcues.telling import told

BRIGHT = ("spot", "bright")
PAN = ("spot", "pan")
RED = ("wash", "red")
MARCHES = {"go", "back", "goto"}


def followed(number, follow):
    return on(number, {}, follow=follow)


def take(run, deed):
    """Has the run take a deed, told as the plain telling has it."""
    names = {"go": run.go, "back": run.back, "goto": run.goto, "stop": run.stop, "on": run.on, "list": run.change}
    return names[deed[1]](deed[0], *deed[2:])


def taken(cues, deeds):
    run = Run(cues)
    for deed in deeds:
        take(run, deed)
    return run


def number_told(cues, deeds, top, bottom=1):
    return rows_of(cues, deeds, top, bottom)[0][-1][2]


def all_of(run, tops, bottom=1):
    return [(run.at(top, bottom), run.number_at(top, bottom), run.is_still(top, bottom)) for top in tops]


class Form(unittest.TestCase):
    def test_arguments(self):
        for name, given in (("go", "tick"), ("back", "tick"), ("goto", "tick number"), ("stop", "tick"), ("on", "tick"),
                            ("change", "tick cues")):
            self.assertEqual(list(inspect.signature(getattr(Run([]), name)).parameters), given.split())
        for name in ("at", "number_at", "is_still"):
            given = inspect.signature(getattr(Run([]), name)).parameters
            self.assertEqual(list(given), ["top", "bottom"])
            self.assertEqual([one.default for one in given.values()], [inspect.Parameter.empty, 1])
        self.assertEqual(list(inspect.signature(Run).parameters), ["cues"])

    def test_by_names(self):
        run = Run(cues=[on(1, {PAN: 10}, 10), cue(2)])
        self.assertEqual(run.go(tick=1), 1)
        self.assertEqual(run.at(top=9, bottom=2), {PAN: 3})
        self.assertEqual(run.goto(tick=2, number=2), 2)
        self.assertEqual(run.back(tick=3), 1)
        self.assertEqual(run.stop(tick=4), 1)
        self.assertEqual(run.on(tick=5), 1)
        self.assertEqual(run.change(tick=6, cues=[]), 1)
        self.assertEqual(run.number_at(top=13, bottom=2), 1)
        self.assertIs(run.is_still(top=13, bottom=2), True)

    def test_bottom_left_out(self):
        run = Run([on(1, {PAN: 10}, 10, follow=20), cue(2)])
        run.go(0)
        self.assertEqual((run.at(7), run.at(7, 1), run.at(7, 2)), ({PAN: 7}, {PAN: 7}, {PAN: 3}))
        self.assertEqual((run.number_at(20), run.number_at(20, 1), run.number_at(20, 2)), (2, 2, 1))
        self.assertEqual((run.is_still(20), run.is_still(20, 1), run.is_still(20, 2)), (True, True, False))

    def test_ahead_of_the_first_deed(self):
        run = Run([on(1, {PAN: 10}), cue(2)])
        for top, bottom in ((0, 1), (1, 2), (7, 1), (10 ** 12, 1), (10 ** 21, 10 ** 9), (0, 5)):
            self.assertEqual(run.at(top, bottom), {})
            self.assertIs(type(run.at(top, bottom)), dict)
            self.assertEqual(run.number_at(top, bottom), 0)
            self.assertIs(run.is_still(top, bottom), True)

    def test_deeds_from_nought_on(self):
        for deed in ((0, "go"), (0, "goto", 2), (0, "stop"), (0, "on"), (0, "list", [])):
            cues = [on(1, {PAN: 10}), cue(2)]
            run = Run(cues)
            run.at(10 ** 6)
            take(run, deed)
            self.assertEqual((run.at(0), run.number_at(0)), (told(cues, [deed], 0), number_told(cues, [deed], 0)))


class Deeds(unittest.TestCase):
    def test_each_tells_the_number(self):
        run = Run([cue(2), cue(5), cue(9)])
        self.assertEqual(run.go(1), 2)
        self.assertEqual(run.go(2), 5)
        self.assertEqual(run.back(3), 2)
        self.assertEqual(run.goto(4, 9), 9)
        self.assertEqual(run.goto(4, 9), 9)
        self.assertEqual(run.stop(5), 9)
        self.assertEqual(run.on(6), 9)
        self.assertEqual(run.change(7, [cue(1)]), 9)
        self.assertEqual(run.back(8), 1)
        self.assertEqual(run.back(9), 0)

    def test_with_what_comes_in_no_time(self):
        cues = [followed(1, 0), followed(2, 0), cue(3), followed(4, 1), followed(5, 0), cue(6), cue(7)]
        run = Run(cues)
        self.assertEqual((run.go(10), run.number_at(10)), (3, 3))
        self.assertEqual((run.go(10), run.number_at(10)), (4, 4))
        self.assertEqual((run.number_at(21, 2), run.number_at(11)), (4, 6))
        self.assertEqual(run.goto(10, 2), 3)
        self.assertEqual(run.back(10), 2)
        self.assertEqual(run.number_at(99), 2)
        self.assertEqual(run.goto(12, 5), 6)

    def test_with_what_was_due_ahead_of_it(self):
        cues = [followed(1, 5), followed(2, 7), cue(3), cue(4), cue(5)]
        for deed, number in (((11, "go"), 2), ((15, "go"), 3), ((21, "go"), 3), ((22, "go"), 4), ((99, "go"), 4),
                             ((14, "stop"), 1), ((15, "stop"), 2), ((22, "stop"), 3), ((90, "on"), 3), ((15, "on"), 2),
                             ((15, "back"), 1), ((22, "back"), 2), ((15, "list", []), 2), ((30, "list", []), 3)):
            run = taken(cues, [(10, "go")])
            self.assertEqual(take(run, deed), number)
            self.assertEqual(run.number_at(deed[0]), number)

    def test_a_stopped_clock(self):
        cues = [on(1, {PAN: 100}, 100, follow=60), on(2, {PAN: 0}, 0, 50)]
        run = taken(cues, [(0, "go"), (50, "stop")])
        self.assertEqual([run.at(top) for top in (50, 60, 999)], [{PAN: 50}] * 3)
        self.assertEqual((run.number_at(10 ** 6), run.is_still(10 ** 6)), (1, False))
        self.assertEqual(run.on(100), 1)
        self.assertEqual([run.number_at(top) for top in (100, 109, 110)], [1, 1, 2])
        self.assertEqual([run.at(top) for top in (100, 109, 110, 120)], [{PAN: 50}, {PAN: 59}, {PAN: 60}, {PAN: 48}])

    def test_a_march_lets_a_stopped_clock_go_on(self):
        cues = [on(1, {PAN: 100}, 100), on(2, {RED: 10}, 10)]
        run = taken(cues, [(0, "go"), (50, "stop")])
        self.assertEqual(run.go(300), 2)
        self.assertEqual((run.at(300), run.at(310)), ({PAN: 50}, {PAN: 60, RED: 10}))

    def test_back_behind_a_go(self):
        cues = [on(1, {PAN: 100}), on(4, {RED: 10}), on(6, {PAN: 0, BRIGHT: 5})]
        for stood in (0, 1, 4):
            run = Run(cues)
            if stood:
                run.goto(0, stood)
            look = run.at(5000)
            run.go(5000)
            self.assertEqual(run.back(9000), stood)
            self.assertEqual((run.at(10000), run.is_still(10000)), (look, True))

    def test_change(self):
        cues = [on(1, {PAN: 100}, 100, follow=60), on(2, {PAN: 7})]
        run = taken(cues, [(0, "go")])
        self.assertEqual(run.change(20, [on(1, {PAN: 100, RED: 5}), on(3, {RED: 6})]), 1)
        self.assertEqual((run.at(20), run.at(40)), ({PAN: 20, RED: 5}, {PAN: 40, RED: 5}))
        self.assertEqual((run.number_at(59), run.number_at(60)), (1, 3))
        self.assertEqual(run.at(60), {PAN: 60, RED: 6})


class Refusals(unittest.TestCase):
    def setUp(self):
        self.cues = [on(1, {PAN: 10}, 10), on(2, {PAN: 20}, 10), on(3, {PAN: 30}, 10)]

    def deeds(self, tick):
        return [(tick, "go"), (tick, "back"), (tick, "goto", 1), (tick, "goto", 3), (tick, "stop"), (tick, "on"),
                (tick, "list", [])]

    def test_a_run_of_no_list(self):
        for thing in no_lists():
            refused(self, NoList, Run, thing)

    def test_a_change_to_no_list(self):
        run = taken(self.cues, [(5, "go")])
        before = all_of(run, range(5, 40, 5))
        for thing in no_lists():
            refused(self, NoList, run.change, 5, thing)
            refused(self, NoList, run.change, 30, thing)
        self.assertEqual(all_of(run, range(5, 40, 5)), before)

    def test_late_deeds(self):
        for last in self.deeds(50):
            run = taken(self.cues, [(10, "go"), last])
            for tick in (49, 10, 9, 0):
                for deed in self.deeds(tick):
                    refused(self, Late, take, run, deed)
            run.stop(50)

    def test_the_last_deed_s_own_tick_is_not_late(self):
        for deed in self.deeds(50):
            run = taken(self.cues, [(10, "go"), (50, "go")])
            take(run, deed)
            refused(self, Late, run.on, 49)

    def test_late_moments(self):
        for last in self.deeds(50):
            run = taken(self.cues, [(10, "go"), last])
            for ask in (run.at, run.number_at, run.is_still):
                for top, bottom in ((49, 1), (0, 1), (99, 2), (50 * MOST - 1, MOST), (349, 7)):
                    refused(self, Late, ask, top, bottom)
                for top, bottom in ((50, 1), (100, 2), (101, 2), (50 * MOST, MOST), (351, 7)):
                    ask(top, bottom)
                refused(self, Late, ask, 49)
                refused(self, Late, ask, top=49)

    def test_late_goes_first(self):
        run = taken(self.cues, [(0, "goto", 3), (50, "stop")])
        refused(self, Late, run.go, 49)
        refused(self, NoCue, run.go, 50)
        refused(self, Late, run.goto, 49, 4)
        refused(self, NoCue, run.goto, 50, 4)
        refused(self, Late, run.change, 49, None)
        refused(self, NoList, run.change, 50, None)
        for thing in ODD:
            refused(self, Late, run.goto, 49, thing)
        run = taken(self.cues, [(50, "on")])
        refused(self, Late, run.back, 49)
        refused(self, NoCue, run.back, 50)

    def test_a_go_with_no_cue_above(self):
        refused(self, NoCue, Run([]).go, 5)
        run = taken(self.cues, [(5, "goto", 3)])
        refused(self, NoCue, run.go, 5)
        refused(self, NoCue, run.go, 500)
        run.change(6, [cue(3)])
        refused(self, NoCue, run.go, 6)
        run.change(6, [cue(4)])
        self.assertEqual(run.go(6), 4)

    def test_a_back_on_nought(self):
        refused(self, NoCue, Run([]).back, 5)
        run = Run(self.cues)
        refused(self, NoCue, run.back, 0)
        run.go(1)
        self.assertEqual(run.back(2), 0)
        refused(self, NoCue, run.back, 2)

    def test_a_goto_to_no_cue(self):
        run = taken(self.cues, [(5, "go")])
        before = all_of(run, (5, 10, 100))
        for thing in [0, 4, MOST, MOST + 1, 10 ** 30] + WRONG_NUMBERS + ODD + TEXTS + TUPLES + LISTS + DICTS:
            refused(self, NoCue, run.goto, 5, thing)
            refused(self, NoCue, run.goto, 9, thing)
            refused(self, NoCue, Run([]).goto, 0, thing)
        self.assertEqual(all_of(run, (5, 10, 100)), before)

    def test_a_goto_by_the_list_there_is(self):
        run = taken(self.cues, [(5, "go"), (6, "list", [cue(7)])])
        for number in (1, 2, 3):
            refused(self, NoCue, run.goto, 6, number)
        self.assertEqual(run.goto(6, 7), 7)

    def test_what_would_do_nothing_hangs_on_what_is_due_ahead(self):
        run = taken([followed(1, 20), cue(2)], [(0, "go")])
        refused(self, NoCue, run.go, 20)
        refused(self, NoCue, run.go, 99)
        self.assertEqual(run.go(19), 2)

    def test_what_is_refused_changes_nothing(self):
        cues = [followed(1, 20), followed(2, 3), on(3, {PAN: 30}, 10, follow=10)]
        deeds = [(0, "goto", 2), (5, "stop"), (7, "on")]
        untouched = all_of(taken(cues, deeds), range(7, 60))
        for kind, refuse in ((NoCue, lambda run: run.go(90)), (NoCue, lambda run: run.goto(90, 4)),
                             (NoList, lambda run: run.change(90, None)), (Late, lambda run: run.on(6)),
                             (Late, lambda run: run.stop(6)), (Late, lambda run: run.back(6)),
                             (Late, lambda run: run.goto(6, 1)), (Late, lambda run: run.change(6, [])),
                             (Late, lambda run: run.go(6)), (Late, lambda run: run.at(6)),
                             (Late, lambda run: run.number_at(13, 2)), (Late, lambda run: run.is_still(0))):
            run = taken(cues, deeds)
            refused(self, kind, refuse, run)
            self.assertEqual(all_of(run, range(7, 60)), untouched)
            self.assertEqual(run.back(7), 2)

    def test_what_is_refused_is_no_deed_taken(self):
        run = taken(self.cues, [(5, "goto", 3)])
        refused(self, NoCue, run.go, 90)
        refused(self, NoCue, run.goto, 91, 9)
        refused(self, NoList, run.change, 92, 9)
        self.assertEqual(run.at(5), {})
        self.assertEqual(run.at(7), {PAN: 6})
        self.assertEqual(run.back(6), 2)
        refused(self, Late, run.at, 5)

    def test_a_refused_march_leaves_a_stopped_clock_stopped(self):
        for refuse in (lambda run: run.go(90), lambda run: run.goto(90, 9), lambda run: run.goto(90, True)):
            run = taken(self.cues, [(0, "goto", 3), (5, "stop")])
            refused(self, NoCue, refuse, run)
            self.assertEqual((run.at(500), run.is_still(500)), ({PAN: 15}, False))
        run = taken(self.cues, [(0, "goto", 1), (1, "back"), (5, "stop")])
        refused(self, NoCue, run.back, 90)
        self.assertFalse(run.is_still(10 ** 6))

    def test_a_stop_or_on_that_does_nothing_is_taken(self):
        run = taken(self.cues, [(0, "go")])
        self.assertEqual(run.on(20), 1)
        refused(self, Late, run.go, 19)
        refused(self, Late, run.at, 19)
        self.assertEqual(run.at(20), {PAN: 10})
        run.stop(30)
        self.assertEqual(run.stop(40), 1)
        refused(self, Late, run.on, 39)
        refused(self, Late, run.number_at, 79, 2)
        self.assertEqual((run.on(40), run.go(40), run.at(45)), (1, 2, {PAN: 15}))


class Asking(unittest.TestCase):
    def test_binds_nothing(self):
        cues = [on(1, {PAN: 100}, 100, follow=50), on(2, {PAN: 0}, 0, 50, follow=10), cue(3)]
        run = taken(cues, [(0, "go")])
        for ask in (run.at, run.number_at, run.is_still):
            ask(10 ** 9)
            ask(75)
            ask(10, 3)
        self.assertEqual(run.number_at(10 ** 9), 3)
        self.assertEqual((run.at(10), run.number_at(10)), ({PAN: 10}, 1))
        self.assertEqual(run.stop(20), 1)
        self.assertEqual((run.at(10 ** 9), run.number_at(10 ** 9)), ({PAN: 20}, 1))
        self.assertEqual(run.on(20), 1)
        self.assertEqual(run.back(20), 0)
        self.assertEqual(run.number_at(10 ** 9), 0)

    def test_a_question_behind_a_follow_on_leaves_it_due(self):
        cues = [on(1, {PAN: 100}, 100, follow=50), on(2, {PAN: 0}, 0, 50), cue(3)]
        run = taken(cues, [(0, "go")])
        self.assertEqual(run.at(75), {PAN: 25})
        self.assertEqual(run.change(40, [on(1, {PAN: 100}), on(2, {PAN: 60})]), 1)
        self.assertEqual((run.at(49), run.at(50)), ({PAN: 49}, {PAN: 60}))

    def test_the_same_twice(self):
        for seed in range(40):
            cues = short_list(seed)
            run = Run(cues)
            for deed in some_deeds(seed + 6000, cues, 6):
                try:
                    take(run, deed)
                except NoCue:
                    pass
            tops = [200, 1000, 250, 10 ** 6, 200, 5000]
            first = all_of(run, tops)
            self.assertEqual(all_of(run, tops), first)
            self.assertEqual(all_of(run, reversed(tops)), first[::-1])


class Still(unittest.TestCase):
    def test_a_fade(self):
        run = taken([on(1, {PAN: 10, RED: 5}, 10, 0, 7)], [(5, "go")])
        self.assertEqual([run.is_still(top) for top in (5, 10, 21, 22, 23)], [False, False, False, True, True])
        self.assertEqual([run.is_still(top, 3) for top in (15, 65, 66, 67)], [False, False, True, True])

    def test_the_last_of_several_slots(self):
        run = taken([Cue(1, [Part({PAN: 10}, {}, 10), Part({}, {RED: 1}, 30)])], [(5, "go")])
        self.assertEqual([run.is_still(top) for top in (15, 34, 35)], [False, False, True])

    def test_no_fade(self):
        run = taken([on(1, {PAN: 0}, 500, 500, 500), cue(2)], [(5, "go")])
        self.assertIs(run.is_still(5), True)
        run = taken([on(1, {PAN: 7}, 0, 500)], [(5, "go")])
        self.assertIs(run.is_still(5), True)

    def test_a_back(self):
        run = taken([on(1, {PAN: 7})], [(5, "go"), (6, "back")])
        self.assertEqual([run.is_still(top) for top in (6, 1005, 1006)], [False, False, True])

    def test_a_fade_that_stands_where_it_goes(self):
        # It waits at 7 to go to 7 in its fall's time, so it isn't over till then.
        cues = [on(1, {PAN: 7}), on(2, {PAN: 100}, 0, 0, 50), on(3, {PAN: 7}, 20, 20)]
        run = taken(cues, [(0, "go"), (10, "go"), (20, "go")])
        self.assertEqual([run.is_still(top) for top in (20, 39, 40)], [False, False, True])

    def test_a_follow_on_due(self):
        cues = [followed(1, 20), followed(2, 5), cue(3)]
        run = taken(cues, [(10, "go")])
        self.assertEqual([run.is_still(top) for top in (10, 29, 30, 34, 35)], [False, False, False, False, True])
        self.assertEqual([run.is_still(top, 2) for top in (59, 60, 69, 70)], [False, False, False, True])

    def test_a_follow_on_due_with_no_cue_above(self):
        run = taken([followed(1, 20)], [(10, "go")])
        self.assertIs(run.is_still(10), True)
        run = taken([on(1, {PAN: 10}, 10, follow=20)], [(10, "go")])
        self.assertEqual([run.is_still(top) for top in (10, 19, 20, 30, 31)], [False, False, True, True, True])
        run = taken([on(1, {PAN: 10}, 10, follow=20), cue(2)], [(10, "go")])
        self.assertEqual([run.is_still(top) for top in (10, 19, 20, 29, 30)], [False, False, False, False, True])

    def test_a_change_makes_or_takes_a_cue_above(self):
        run = taken([followed(1, 20)], [(10, "go"), (15, "list", [cue(1), cue(2)])])
        self.assertEqual([run.is_still(top) for top in (15, 29, 30)], [False, False, True])
        run = taken([followed(1, 20), cue(2)], [(10, "go"), (15, "list", [cue(1)])])
        self.assertEqual([run.is_still(top) for top in (15, 29, 30)], [True, True, True])

    def test_a_stopped_run(self):
        cues = [on(1, {PAN: 10}, 10), followed(2, 20), cue(3)]
        run = taken(cues, [(0, "go"), (9, "stop")])
        self.assertEqual([run.is_still(top) for top in (9, 10, 10 ** 9)], [False, False, False])
        run = taken(cues, [(0, "go"), (10, "stop")])
        self.assertEqual([run.is_still(top) for top in (10, 10 ** 9)], [True, True])
        run = taken(cues, [(0, "goto", 2), (15, "stop")])
        self.assertEqual([run.is_still(top) for top in (15, 20, 10 ** 9)], [False, False, False])
        run = taken(cues, [(0, "goto", 2), (20, "stop")])
        self.assertEqual([run.is_still(top) for top in (20, 10 ** 9)], [True, True])
        run = taken(cues, [(0, "go"), (9, "stop"), (50, "on")])
        self.assertEqual([run.is_still(top) for top in (50, 51)], [False, True])

    def test_what_a_follow_on_tells_counts_at_its_tick(self):
        cues = [followed(1, 20), on(2, {PAN: 10}, 10)]
        run = taken(cues, [(0, "go")])
        self.assertEqual([run.is_still(top) for top in (20, 29, 30)], [False, False, True])

    def test_still_stands_as_shown_till_the_next_deed(self):
        stills = 0
        for seed in range(200):
            cues = short_list(seed)
            run = Run(cues)
            lists = [cues]
            for deed in some_deeds(seed + 7000, cues, 12):
                try:
                    take(run, deed)
                except NoCue:
                    continue
                if deed[1] == "list":
                    lists.append(deed[2])
                for top in (deed[0] * 2, deed[0] * 2 + 31, deed[0] * 2 + 3000):
                    if run.is_still(top, 2):
                        stills += 1
                        look = shown(lists[-1], run.number_at(top, 2))
                        for later in (0, 1, 77, 5000, 10 ** 12):
                            self.assertEqual(run.at(top + later, 2), look)
                            self.assertEqual(run.number_at(top + later, 2), run.number_at(top, 2))
                            self.assertIs(run.is_still(top + later, 2), True)
        self.assertGreater(stills, 1000)


class Ownership(unittest.TestCase):
    def test_lists_handed_in_stay_and_are_not_kept(self):
        cues = [on(1, {PAN: 10}), on(2, {PAN: 20})]
        others = [on(1, {PAN: 30}), on(2, {PAN: 40})]
        before = list(cues), plain(cues), list(others), plain(others)
        run = Run(cues)
        run.go(1)
        run.change(2, others)
        run.at(5)
        self.assertEqual((cues, plain(cues), others, plain(others)), before)
        cues.clear()
        others.pop()
        self.assertEqual(run.at(2), {PAN: 30})
        self.assertEqual(run.go(3), 2)
        self.assertEqual(run.at(3), {PAN: 40})

    def test_a_first_list_is_not_kept(self):
        cues = [on(1, {PAN: 10}), on(2, {PAN: 20})]
        run = Run(cues)
        cues.clear()
        self.assertEqual((run.go(1), run.at(1)), (1, {PAN: 10}))

    def test_looks_are_the_asker_s_own(self):
        run = taken([on(1, {PAN: 10}), on(2, {PAN: 20})], [(1, "go")])
        kept = run.at(5)
        look = run.at(5)
        look.clear()
        self.assertEqual(run.at(5), {PAN: 10})
        look[RED] = 5
        self.assertEqual(run.at(5), {PAN: 10})
        run.go(6)
        self.assertEqual((kept, run.at(6)), ({PAN: 10}, {PAN: 20}))

    def test_two_runs_do_not_touch(self):
        cues = [on(1, {PAN: 10}), on(2, {PAN: 20})]
        one = Run(cues)
        other = Run(cues)
        one.go(1)
        one.change(50, [])
        self.assertEqual((other.at(0), other.number_at(0), other.go(7), other.at(7)), ({}, 0, 1, {PAN: 10}))


class AgainstThePlainTelling(unittest.TestCase):
    def ask(self, run, chance, cues, deeds, ticks):
        plainly = PlainTelling(cues, deeds, ticks + 81)
        for place in range(3):
            bottom = chance.choice((1, 1, 2, 3, 7))
            top = ticks * bottom + chance.choice((0, 0, 1, chance.randrange(80 * bottom)))
            moment = Fraction(top, bottom)
            self.assertEqual(run.at(top, bottom), plainly.look(moment), (cues, deeds, top, bottom))
            self.assertEqual(run.at(top, bottom), told(cues, deeds, top, bottom))
            self.assertEqual(run.number_at(top, bottom), plainly.state(moment)[2])
            self.assertIs(run.is_still(top, bottom), plainly.is_still(moment))

    def refuse(self, run, chance, deeds, ticks):
        """Deeds and questions that are refused, some of them far ahead."""
        refused(self, NoCue, run.goto, ticks + chance.randrange(90), chance.choice((0, -3, 77, True, None)))
        refused(self, NoList, run.change, ticks + chance.randrange(90), chance.choice((0, None, [7], ())))
        if deeds and ticks > 0:
            refused(self, Late, take, run, (ticks - 1, chance.choice(("go", "back", "stop", "on"))))
            refused(self, Late, run.at, ticks * 5 - 1, 5)

    def does_nothing(self, cues, deeds, deed):
        if deed[1] not in MARCHES:
            return False
        ahead = PlainTelling(cues, deeds, deed[0]).rows
        return len(PlainTelling(cues, deeds + [deed], deed[0]).rows) == len(ahead)

    def test_woven_with_questions_and_refusals(self):
        for seed in range(120):
            chance = random.Random(seed + 10000)
            cues = short_list(seed)
            run = Run(cues)
            deeds = []
            for deed in some_deeds(seed + 8000, cues, 14):
                ticks = deeds[-1][0] if deeds else 0
                if chance.randrange(2):
                    self.ask(run, chance, cues, deeds, ticks)
                if chance.randrange(3) == 0:
                    self.refuse(run, chance, deeds, ticks)
                if self.does_nothing(cues, deeds, deed):
                    refused(self, NoCue, take, run, deed)
                else:
                    deeds.append(deed)
                    number = take(run, deed)
                    self.assertEqual(number, number_told(cues, deeds, deed[0]))
                    self.assertEqual(number, run.number_at(deed[0]))
            self.ask(run, chance, cues, deeds, deeds[-1][0] if deeds else 0)

    def test_at_each_moment(self):
        for seed in range(60):
            cues = short_list(seed + 300)
            run = Run(cues)
            deeds = []
            for deed in some_deeds(seed + 9000, cues, 10):
                try:
                    take(run, deed)
                except NoCue:
                    continue
                deeds.append(deed)
            ticks = deeds[-1][0] if deeds else 0
            for top in range(ticks * 2, ticks * 2 + 90):
                self.assertEqual(run.at(top, 2), told(cues, deeds, top, 2), (seed, top))
                self.assertEqual(run.number_at(top, 2), number_told(cues, deeds, top, 2), (seed, top))

    def test_many_deeds_cues_and_slots(self):
        slots = [(lamp, side) for lamp in "abcdefghijklmnop" for side in ("bright", "pan", "tilt", "red", "blue")]
        cues = [on(place + 1, {slot: place + 7 for slot in slots[place % 5::5]}, 20, 30, 10, 25 if place % 4 else None)
                for place in range(100)]
        run = Run(cues)
        deeds = []
        for place in range(400):
            word = ("go", "goto", "back", "stop", "on", "list", "go")[place % 7]
            deed = {"goto": (place * 9, word, 1 + place * 37 % 100), "list": (place * 9, word, cues[place % 3:])}
            deeds.append(deed.get(word, (place * 9, word)))
            try:
                take(run, deeds[-1])
            except NoCue:
                deeds.pop()
            if place % 80 == 79:
                for top in (place * 9, place * 9 + 13, place * 9 + 500):
                    self.assertEqual(run.at(top), told(cues, deeds, top))
                    self.assertEqual(run.number_at(top), number_told(cues, deeds, top))
        self.assertGreater(len(deeds), 350)

    def test_great_numbers(self):
        cues = [on(1, {PAN: MOST}, MOST, MOST, MOST, MOST), on(MOST, {PAN: 0}, 0, MOST)]
        run = Run(cues)
        begun = 10 ** 12 - 4 * MOST
        run.go(begun)
        for top in (begun + MOST - 1, begun + MOST, begun + MOST + 7, begun + 2 * MOST, 10 ** 12):
            for bottom in (1, 3, MOST):
                self.assertEqual(run.at(top * bottom + bottom // 2, bottom),
                                 told(cues, [(begun, "go")], top * bottom + bottom // 2, bottom))
        self.assertEqual(run.number_at((begun + MOST) * MOST - 1, MOST), 1)
        self.assertEqual(run.number_at((begun + MOST) * MOST, MOST), MOST)


if __name__ == "__main__":
    unittest.main()
