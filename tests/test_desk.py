import copy
import random
import unittest
from fractions import Fraction

from helper import (DICTS, LISTS, MOST, NUMBERS, ODD, TEXTS, TUPLES, WRONG_NUMBERS, PlainDesk, all_weavings,
                    arguments_of, plain, refused, short_list, some_hands, woven)
from lampcues.desk import Desk
from lampcues.errors import Late, NoRow, NoText
from lampcues.reader import read
from lampcues.writer import written

BRIGHT = ("spot", "bright")
PAN = ("spot", "pan")
RED = ("wash", "red")
WASH = ("wash", "bright")
LIST = """cue 1
part 0.01 0.02 0
on spot bright 1000
on spot pan 40
cue 2 follow 0.05
part 0.1 0 0
on spot pan 140
alone wash red 7
cue 5 stop
part 0 0 0"""
NO_ROWS = ["", "go", "a go", "a 1", "a 1 ", "a 01 go", "A 1 go", "a 1 goto 0", "a 1 goto", "a 1 put 1 1 1", "a 1 go ",
           "a  1 go", "a 1 tell 1 spot up 1", "a 1 move left 1001", "a 1 down 1001", "a 1000000000000 go", "a 1 list"]


def heard(*rows, text=""):
    desk = Desk(text)
    for row in rows:
        desk.hear(row)
    return desk


def state(desk):
    """All that a desk tells of some moments, and its rows."""
    asks = (desk.picture, desk.number_at, desk.list_at)
    return [[ask(top, 2) for ask in asks] for top in range(0, 120, 3)], desk.rows()


class NothingHeard(unittest.TestCase):
    def test_without_a_list(self):
        for desk in (Desk(), Desk("")):
            for moment in ((0,), (5,), (10 ** 12,), (7, 3)):
                self.assertEqual(desk.picture(*moment), {})
                self.assertEqual(desk.number_at(*moment), 0)
                self.assertEqual(desk.list_at(*moment), "")
            self.assertEqual(desk.rows(), [])

    def test_with_a_list(self):
        desk = Desk(LIST)
        for moment in ((0,), (5,), (10 ** 12,), (7, 3)):
            self.assertEqual(desk.picture(*moment), {})
            self.assertEqual(desk.number_at(*moment), 0)
            self.assertEqual(desk.list_at(*moment), LIST)
        self.assertEqual(desk.rows(), [])


class Beginnings(unittest.TestCase):
    """Texts of lists to begin with."""

    def test_as_it_is_written(self):
        for seed in range(60):
            text = written(short_list(seed))
            self.assertEqual(Desk(text).list_at(0), text)
            self.assertEqual(Desk(text=text).list_at(10, 3), text)

    def test_tellings_in_any_order_are_written_in_theirs(self):
        text = "cue 1\npart 0 0 0\nalone spot tilt 3\non spot pan 2\non a pan 1"
        self.assertEqual(Desk(text).list_at(0), "cue 1\npart 0 0 0\non a pan 1\non spot pan 2\nalone spot tilt 3")

    def test_no_texts(self):
        for thing in ODD + TUPLES + LISTS + DICTS + NUMBERS + WRONG_NUMBERS:
            self.assertEqual(refused(self, NoText, Desk, thing).row, 0)

    def test_texts_that_tell_no_list(self):
        for text, row in (("x", 0), ("cue 0", 0), ("cue 1", 1), ("cue 1\ncue 2", 1), ("\n", 0), (LIST + "\n", 10),
                          (LIST + "\ncue 5", 10), ("cue 1\npart 0 0 0\non spot pan 1\non spot pan 1", 3)):
            self.assertEqual(refused(self, NoText, Desk, text).row, row)
            self.assertEqual(refused(self, NoText, Desk, text=text).row, row)
        for text in TEXTS[1:]:
            refused(self, NoText, Desk, text)


class Goings(unittest.TestCase):
    def test_go_and_fade(self):
        desk = heard("a 100 go", text=LIST)
        self.assertEqual(desk.picture(99), {})
        self.assertEqual(desk.picture(199, 2), {})
        self.assertEqual(desk.picture(100), {})
        self.assertEqual(desk.picture(105), {BRIGHT: 500, PAN: 20})
        self.assertEqual(desk.picture(211, 2), {BRIGHT: 550, PAN: 22})
        self.assertEqual(desk.picture(110), {BRIGHT: 1000, PAN: 40})
        self.assertEqual([desk.number_at(top) for top in (0, 99, 100, 500)], [0, 0, 1, 1])

    def test_follow_on(self):
        desk = heard("a 100 go", "a 150 go", text=LIST)
        self.assertEqual([desk.number_at(top) for top in (149, 150, 199, 200, 300)], [1, 2, 2, 5, 5])
        self.assertEqual(desk.number_at(399, 2), 2)
        self.assertEqual(desk.picture(199), {BRIGHT: 1000, PAN: 89, RED: 3})
        self.assertEqual(desk.picture(200), {})

    def test_stop_on_back_and_goto(self):
        desk = heard("a 100 goto 2", "a 120 stop", "a 1000 on", "a 1040 back", text=LIST)
        self.assertEqual(desk.picture(120), {BRIGHT: 200, PAN: 28, RED: 1})
        self.assertEqual(desk.picture(999), {BRIGHT: 200, PAN: 28, RED: 1})
        self.assertEqual(desk.number_at(999), 2)
        self.assertEqual(desk.number_at(1029), 2)
        self.assertEqual(desk.number_at(1030), 5)
        self.assertEqual(desk.number_at(1040), 2)
        self.assertEqual(desk.picture(2040), {BRIGHT: 1000, PAN: 140, RED: 7})

    def test_a_go_lets_the_clock_go_on(self):
        desk = heard("a 100 go", "a 105 stop", "a 200 go", text=LIST)
        self.assertEqual(desk.picture(199), {BRIGHT: 500, PAN: 20})
        self.assertEqual(desk.picture(205), {BRIGHT: 1000, PAN: 26})
        self.assertEqual(desk.number_at(250), 5)


class ListDeeds(unittest.TestCase):
    def test_put(self):
        desk = heard("a 5 put 3 1.25 0.02 0", "a 6 put 1 0 0 0 follow 2", "a 7 put 1000000000 0 0 1000000")
        self.assertEqual(desk.list_at(4), "")
        self.assertEqual(desk.list_at(9, 2), "")
        self.assertEqual(desk.list_at(5), "cue 3\npart 1.25 0.02 0")
        self.assertEqual(desk.list_at(6), "cue 1 follow 2\npart 0 0 0\ncue 3\npart 1.25 0.02 0")
        self.assertEqual(desk.list_at(7), desk.list_at(6) + "\ncue 1000000000\npart 0 0 1000000")

    def test_put_with_a_follow_in_no_time(self):
        desk = heard("a 0 put 1 0 0 0 follow 0", "a 0 put 2 0 0 0", "b 5 go")
        self.assertEqual(desk.list_at(0), "cue 1 follow 0\npart 0 0 0\ncue 2\npart 0 0 0")
        self.assertEqual(desk.number_at(5), 2)

    def test_tell_and_alone_and_untell(self):
        desk = heard("a 1 put 1 0 0 0", "a 2 tell 1 spot pan 40", "a 3 alone 1 spot pan 50", "a 4 tell 1 wash red 0",
                     "a 5 untell 1 spot pan")
        self.assertEqual(desk.list_at(2), "cue 1\npart 0 0 0\non spot pan 40")
        self.assertEqual(desk.list_at(3), "cue 1\npart 0 0 0\non spot pan 40\nalone spot pan 50")
        self.assertEqual(desk.list_at(4), "cue 1\npart 0 0 0\non spot pan 40\non wash red 0\nalone spot pan 50")
        self.assertEqual(desk.list_at(5), "cue 1\npart 0 0 0\non wash red 0")

    def test_told_in_the_part_that_tells_it(self):
        text = "cue 1\npart 1 0 0\npart 2 0 0\nalone spot pan 5"
        desk = heard("a 1 tell 1 spot pan 40", "a 1 tell 1 spot tilt 7", text=text)
        self.assertEqual(desk.list_at(1), "cue 1\npart 1 0 0\non spot tilt 7\npart 2 0 0\non spot pan 40\n"
                                          "alone spot pan 5")

    def test_block_and_unblock(self):
        desk = heard("a 1 block 2", "a 2 unblock 5", text=LIST)
        self.assertEqual(desk.list_at(1), LIST.replace("cue 2 follow", "cue 2 stop follow"))
        self.assertEqual(desk.list_at(2), LIST.replace("cue 2 follow", "cue 2 stop follow").replace("5 stop", "5"))

    def test_out(self):
        desk = heard("a 1 out 1", text=LIST)
        self.assertEqual(desk.list_at(1), LIST[LIST.index("cue 2"):])
        self.assertEqual(desk.list_at(0), LIST)

    def test_keep(self):
        desk = heard("a 1 keep 1", text=LIST)
        self.assertEqual(desk.list_at(1), "cue 2 follow 0.05\npart 0.1 0 0\non spot bright 1000\non spot pan 140\n"
                                          "alone wash red 7\ncue 5 stop\npart 0 0 0")

    def test_a_change_comes_at_once(self):
        desk = heard("a 100 go", "a 105 tell 1 spot pan 7", "a 106 tell 1 spot bright 1000", text=LIST)
        self.assertEqual(desk.picture(105), {BRIGHT: 500, PAN: 7})
        self.assertEqual(desk.picture(106), {BRIGHT: 600, PAN: 7})

    def test_a_follow_on_comes_ahead_of_a_change(self):
        # Due at tick 150: it finds cue 5 still there.
        desk = heard("a 100 goto 2", "b 150 out 5", text=LIST)
        self.assertEqual(desk.number_at(149), 2)
        self.assertEqual(desk.number_at(150), 5)
        desk = heard("a 100 goto 2", "b 149 out 5", text=LIST)
        self.assertEqual(desk.number_at(150), 2)

    def test_one_stands_on_a_cue_taken_out(self):
        desk = heard("a 100 go", "a 200 out 1", "a 300 back", text=LIST)
        self.assertEqual(desk.number_at(200), 1)
        self.assertEqual(desk.picture(200), {})
        self.assertEqual(desk.number_at(300), 0)


class OnTheBoard(unittest.TestCase):
    def test_fill_and_move(self):
        desk = heard("a 10 fill left spot bright 800", "b 20 move left 500")
        self.assertEqual([desk.picture(top) for top in (9, 10, 19, 20)], [{}, {}, {}, {BRIGHT: 400}])
        self.assertEqual(desk.picture(39, 2), {})

    def test_over_the_list(self):
        desk = heard("a 0 go", "b 0 fill x spot bright 3000", "b 0 fill x spot pan 1", "b 50 move x 500",
                     "b 60 move x 0", text=LIST)
        self.assertEqual(desk.picture(49), {BRIGHT: 1000, PAN: 40})
        self.assertEqual(desk.picture(50), {BRIGHT: 1500, PAN: 1})
        self.assertEqual(desk.picture(60), {BRIGHT: 1000, PAN: 40})

    def test_the_last_touch_wins_by_the_order_of_rows(self):
        rows = ["a 5 fill x spot pan 1", "a 5 fill y spot pan 2", "b 7 move x 1", "a 6 move y 1"]
        for way in (rows, [rows[2]] + rows[:2] + rows[3:]):
            self.assertEqual(heard(*way).picture(7), {PAN: 1})
        self.assertEqual(heard(*rows).picture(6), {PAN: 2})
        self.assertEqual(heard(*rows, "a 7 move y 1").picture(7), {PAN: 1})
        self.assertEqual(heard(*rows, "c 7 move y 1").picture(7), {PAN: 2})

    def test_down_and_spare_by_their_hand(self):
        desk = heard("a 0 fill x spot bright 1000", "a 0 fill x wash bright 1000", "a 0 move x 1000", "b 10 down 250",
                     "c 20 down 500", "b 30 spare spot", "c 40 spare wash", "b 50 down 0")
        self.assertEqual(desk.picture(9), {BRIGHT: 1000, WASH: 1000})
        self.assertEqual(desk.picture(10), {BRIGHT: 750, WASH: 750})
        self.assertEqual(desk.picture(20), {BRIGHT: 500, WASH: 500})
        self.assertEqual(desk.picture(30), {BRIGHT: 500, WASH: 500})
        self.assertEqual(desk.picture(40), {BRIGHT: 500, WASH: 750})
        self.assertEqual(desk.picture(50), {BRIGHT: 500, WASH: 1000})

    def test_all_taken_down(self):
        desk = heard("a 0 go", "a 20 down 1000", text=LIST)
        self.assertEqual(desk.picture(19), {BRIGHT: 1000, PAN: 40})
        self.assertEqual(desk.picture(20), {PAN: 40})

    def test_a_fader_and_a_hand_of_one_name(self):
        desk = heard("a 0 fill a spot bright 1000", "a 0 move a 500", "a 0 down 500")
        self.assertEqual(desk.picture(0), {BRIGHT: 250})

    def test_a_fader_tells_at_0(self):
        desk = heard("a 0 go", "a 50 fill x spot pan 0", "a 50 move x 1", text=LIST)
        self.assertEqual(desk.picture(50), {BRIGHT: 1000})

    def test_stopped_the_board_goes_on(self):
        desk = heard("a 0 go", "a 5 stop", "a 9 down 500", text=LIST)
        self.assertEqual(desk.picture(9), {BRIGHT: 250, PAN: 20})


class InOrder(unittest.TestCase):
    def test_by_ticks_then_hands_then_as_told(self):
        desk = heard("b 5 go", "b 5 back", "a 7 stop", "ab 5 on", "a 7 go", "c 0 down 3", "b 6 on", "aa 5 go", "b 7 go")
        self.assertEqual(desk.rows(), ["c 0 down 3", "aa 5 go", "ab 5 on", "b 5 go", "b 5 back", "b 6 on", "a 7 stop",
                                       "a 7 go", "b 7 go"])

    def test_ticks_are_numbers(self):
        self.assertEqual(heard("a 9 go", "b 10 go", "c 100 go", "d 2 go").rows(),
                         ["d 2 go", "a 9 go", "b 10 go", "c 100 go"])

    def test_alike_rows_are_taken_each(self):
        desk = heard("a 5 go", "a 5 go", text=LIST)
        self.assertEqual(desk.rows(), ["a 5 go", "a 5 go"])
        self.assertEqual(desk.number_at(5), 2)

    def test_hands_of_one_tick(self):
        # The list is put in by the first hand by name, whoever is heard first.
        for way in (["b 5 tell 1 spot pan 3", "a 5 put 1 0 0 0"], ["a 5 put 1 0 0 0", "b 5 tell 1 spot pan 3"]):
            self.assertEqual(heard(*way).list_at(5), "cue 1\npart 0 0 0\non spot pan 3")
        for way in (["a 5 tell 1 spot pan 3", "b 5 put 1 0 0 0"], ["b 5 put 1 0 0 0", "a 5 tell 1 spot pan 3"]):
            self.assertEqual(heard(*way).list_at(5), "cue 1\npart 0 0 0")

    def test_as_each_hand_told_them(self):
        self.assertEqual(heard("a 5 put 1 0 0 0", "a 5 out 1").list_at(5), "")
        self.assertEqual(heard("a 5 out 1", "a 5 put 1 0 0 0").list_at(5), "cue 1\npart 0 0 0")

    def test_what_comes_ahead_may_be_heard_behind(self):
        desk = heard("b 100 go")
        self.assertEqual(desk.number_at(100), 0)
        desk.hear("a 50 put 4 0 0 0")
        self.assertEqual(desk.number_at(100), 4)
        self.assertEqual(desk.number_at(99), 0)
        desk.hear("c 60 tell 4 spot pan 9")
        self.assertEqual(desk.picture(100), {PAN: 9})
        desk.hear("a 70 out 4")
        self.assertEqual((desk.picture(100), desk.number_at(100)), ({}, 0))

    def test_rows_behind_a_moment_are_nothing_to_it(self):
        desk = heard("a 10 go", "b 15 tell 1 spot pan 999", text=LIST)
        before = [desk.picture(top, 2) for top in range(30)]
        desk.hear("a 15 stop")
        desk.hear("b 15 fill x spot bright 9999")
        desk.hear("b 15 move x 1000")
        desk.hear("c 999999999999 back")
        self.assertEqual([desk.picture(top, 2) for top in range(30)], before)
        self.assertEqual(desk.picture(15), {BRIGHT: 9999, PAN: 999})

    def test_at_the_moment_itself(self):
        desk = heard("a 10 go", text=LIST)
        self.assertEqual([desk.number_at(*moment) for moment in ((29, 3), (30, 3), (31, 3), (19, 2), (20, 2))],
                         [0, 1, 1, 0, 1])


class NotDone(unittest.TestCase):
    """Rows that can't be done as they come do nothing."""

    def undone(self, row, ahead=(), text=LIST):
        desk = heard(*ahead, text=text)
        # The rows aside: the row itself is taken.
        before = state(desk)[0]
        desk.hear(row)
        self.assertEqual(state(desk)[0], before, row)
        self.assertEqual(desk.rows(), list(ahead) + [row])

    def test_goes(self):
        self.undone("a 20 go", ["a 5 goto 5"])
        self.undone("a 20 back")
        self.undone("a 20 back", ["a 5 go", "a 6 back"])
        self.undone("a 20 goto 3")
        self.undone("a 20 goto 1000000000")
        self.undone("a 20 go", text="")
        self.undone("a 20 goto 1", text="")

    def test_to_the_clock_neither(self):
        self.undone("a 20 go", ["a 0 goto 1", "a 5 goto 5", "a 6 stop"])
        self.undone("a 20 goto 4", ["a 0 go", "a 5 stop"])
        self.undone("a 20 back", ["a 0 go", "a 1 back", "a 5 stop"])

    def test_stop_and_on(self):
        self.undone("a 20 stop", ["a 0 go", "a 5 stop"])
        self.undone("a 20 on", ["a 0 go"])

    def test_cues_that_are_not_there(self):
        for deed in ("out 3", "keep 3", "tell 3 spot pan 1", "alone 3 spot pan 1", "untell 3 spot pan", "block 3",
                     "unblock 3", "out 1000000000", "tell 6 spot pan 0"):
            self.undone("a 20 " + deed)
            self.undone("a 20 " + deed, ["a 5 go", "b 9 go"])
            self.undone("a 20 " + deed, text="")

    def test_cues_that_are_there_already(self):
        self.undone("a 20 put 1 9 9 9")
        self.undone("a 20 put 5 0 0 0 follow 1", ["a 5 go"])

    def test_what_makes_the_list_as_it_is(self):
        self.undone("a 20 block 5", ["a 1 goto 2"])
        self.undone("a 20 unblock 1", ["a 1 goto 2"])
        self.undone("a 20 untell 5 spot pan", ["a 1 goto 2"])
        self.undone("a 20 tell 1 spot pan 40", ["a 15 go"])

    def test_a_hand_s_next_row_is_done(self):
        desk = heard("a 5 out 3", "a 5 goto 3", "a 5 put 3 0 0 0", "a 5 goto 3")
        self.assertEqual(desk.number_at(5), 3)


class Refusals(unittest.TestCase):
    def test_no_rows(self):
        desk = heard("a 5 go", "b 9 fill x spot pan 7", "b 9 move x 1", text=LIST)
        before = state(desk)
        for row in NO_ROWS + ODD + TUPLES + LISTS + DICTS + TEXTS + NUMBERS + WRONG_NUMBERS:
            refused(self, NoRow, desk.hear, row)
        self.assertEqual(state(desk), before)

    def test_late(self):
        desk = heard("a 5 go", "b 9 go", text=LIST)
        before = state(desk)
        for row in ("a 4 go", "a 0 go", "b 8 on", "b 5 down 0", "b 0 put 3 0 0 0", "a 1 goto 77", "a 4 back"):
            refused(self, Late, desk.hear, row)
        self.assertEqual(state(desk), before)

    def test_each_hand_by_itself(self):
        desk = heard("b 100 go", "a 5 go", "c 0 go", "b 100 go", "a 5 stop", "a 6 on", text=LIST)
        refused(self, Late, desk.hear, "a 5 go")
        refused(self, Late, desk.hear, "b 99 go")
        self.assertIsNone(desk.hear("c 0 go"))
        self.assertIsNone(desk.hear("aa 0 go"))
        self.assertEqual(len(desk.rows()), 8)

    def test_rows_that_do_nothing_are_taken_too(self):
        desk = heard("a 5 go")
        self.assertEqual(desk.rows(), ["a 5 go"])
        refused(self, Late, desk.hear, "a 4 go")

    def test_no_row_goes_first(self):
        desk = heard("a 500 go")
        for row in ("a 4 goes", "a 4 goto 0", "a 4", "a 04 go", "a 4 down 1001", "a 4 tell 1 spot pan"):
            refused(self, NoRow, desk.hear, row)

    def test_what_was_refused_is_not_the_last_one_taken(self):
        desk = heard("a 50 go")
        refused(self, Late, desk.hear, "a 10 go")
        refused(self, NoRow, desk.hear, "a 90 go go")
        self.assertIsNone(desk.hear("a 50 on"))
        self.assertIsNone(desk.hear("a 60 on"))
        refused(self, Late, desk.hear, "a 59 on")
        self.assertEqual(desk.rows(), ["a 50 go", "a 50 on", "a 60 on"])

    def test_what_was_asked_makes_nothing_late(self):
        desk = heard("a 5 go", text=LIST)
        desk.picture(10 ** 12)
        desk.number_at(10 ** 12)
        desk.list_at(10 ** 12)
        desk.hear("a 6 go")
        desk.picture(0)
        self.assertEqual(desk.number_at(6), 2)


class Woven(unittest.TestCase):
    """[38]: one picture of the same rows in any weaving, whatever was asked between."""

    def test_all_ways(self):
        hands = [["anna 5 put 1 0.01 0 0", "anna 5 tell 1 spot bright 900", "anna 20 fill anna spot bright 2000"],
                 ["bob 5 tell 1 spot pan 60", "bob 6 go", "bob 30 move anna 300"],
                 ["cy 4 go", "cy 25 down 100"]]
        ways = all_weavings(hands)
        self.assertEqual(len(ways), 560)
        moments = [(0, 1), (5, 1), (6, 1), (21, 2), (16, 1), (25, 1), (61, 2), (100, 1)]
        pictures = [{}, {}, {}, {BRIGHT: 405, PAN: 27}, {BRIGHT: 900, PAN: 60}, {BRIGHT: 810, PAN: 60},
                    {BRIGHT: 810, PAN: 60}, {BRIGHT: 810, PAN: 60}]
        chance = random.Random(3)
        for way in ways:
            desk = Desk()
            for row in way:
                desk.hear(row)
                desk.picture(*chance.choice(moments))
            self.assertEqual([desk.picture(*moment) for moment in moments], pictures, way)
            self.assertEqual([desk.number_at(*moment) for moment in moments], [0, 0] + [1] * 6)
            self.assertEqual(desk.list_at(5), "cue 1\npart 0.01 0 0\non spot bright 900\non spot pan 60")
            self.assertEqual(desk.rows(), ["cy 4 go", "anna 5 put 1 0.01 0 0", "anna 5 tell 1 spot bright 900",
                                           "bob 5 tell 1 spot pan 60", "bob 6 go", "anna 20 fill anna spot bright 2000",
                                           "cy 25 down 100", "bob 30 move anna 300"])

    def test_drawn_ones_in_all_ways(self):
        moments = [(0, 1), (2, 1), (11, 2), (25, 1), (200, 3)]
        ways = 0
        for seed in range(60):
            chance = random.Random(seed)
            hands = some_hands(chance, 3, 2, (0, 0, 1, 3, 10))
            cues = short_list(seed, 3)
            plainly = PlainDesk(cues)
            for row in hands[0] + hands[1] + hands[2]:
                plainly.hear(row)
            pictures = [plainly.at(Fraction(*moment))[0] for moment in moments]
            for way in all_weavings(hands):
                ways += 1
                desk = Desk(written(cues))
                for row in way:
                    desk.hear(row)
                    desk.picture(*chance.choice(moments))
                self.assertEqual([desk.picture(*moment) for moment in moments], pictures, way)
        self.assertGreater(ways, 500)

    def test_against_the_plain_desk(self):
        seen = {"go": 0, "bright": 0, "list": 0, "pictures": 0}
        for seed in range(250):
            chance = random.Random(seed + 5000)
            cues = short_list(seed, 4) if seed % 3 else []
            desk = Desk(written(cues))
            plainly = PlainDesk(cues)
            for row in woven(chance, some_hands(chance, chance.randrange(1, 5))):
                self.assertIsNone(desk.hear(row))
                plainly.hear(row)
                if chance.randrange(5) == 0:
                    self.hold(desk, plainly, chance)
            self.assertEqual(desk.rows(), plainly.rows())
            for place in range(6):
                picture, number, now = self.hold(desk, plainly, chance)
                seen["go"] += number > 0
                seen["list"] += plain(now) != plain(cues)
                seen["pictures"] += len(picture) > 1
                seen["bright"] += any(slot[1] == "bright" for slot in picture)
        self.assertGreater(min(seen.values()), 200, seen)

    def hold(self, desk, plainly, chance):
        bottom = chance.choice((1, 1, 2, 3, 7))
        top = chance.randrange(120 * bottom)
        picture, number, now = plainly.at(Fraction(top, bottom))
        self.assertEqual(desk.picture(top, bottom), picture, (plainly.rows(), top, bottom))
        self.assertEqual(desk.number_at(top, bottom), number)
        self.assertEqual(desk.list_at(top, bottom), written(now))
        self.assertEqual(plain(read(desk.list_at(top, bottom))), plain(now))
        return picture, number, now

    def test_one_moment_written_in_several_ways(self):
        for seed in range(40):
            chance = random.Random(seed)
            desk = heard(*woven(chance, some_hands(chance)), text=written(short_list(seed)))
            top, bottom = chance.randrange(200), chance.choice((1, 2, 5))
            for more in (2, 3, 10 ** 6):
                self.assertEqual(desk.picture(top * more, bottom * more), desk.picture(top, bottom))
                self.assertEqual(desk.number_at(top * more, bottom * more), desk.number_at(top, bottom))
                self.assertEqual(desk.list_at(top * more, bottom * more), desk.list_at(top, bottom))


class Edges(unittest.TestCase):
    def test_greatest_ticks_and_moments(self):
        desk = heard("a 999999999999 go", text=LIST)
        self.assertEqual(desk.number_at(999999999998), 0)
        self.assertEqual(desk.number_at(999999999999), 1)
        self.assertEqual(desk.picture(10 ** 12), {BRIGHT: 100, PAN: 4})
        self.assertEqual(desk.picture(10 ** 12 * MOST - 1, MOST), {BRIGHT: 99, PAN: 3})
        self.assertEqual(desk.number_at(999999999999 * MOST - 1, MOST), 0)

    def test_greatest_worths(self):
        desk = heard("a 0 put 1000000000 1000000 0 0", "a 0 tell 1000000000 spot bright 1000000000", "a 0 go",
                     "a 0 fill x wash bright 1000000000", "a 0 move x 1000")
        self.assertEqual(desk.picture(1), {BRIGHT: 1, WASH: MOST})
        self.assertEqual(desk.picture(MOST), {BRIGHT: MOST, WASH: MOST})

    def test_many_rows(self):
        desk = Desk()
        for place in range(100):
            desk.hear("a " + str(place) + " put " + str(place + 1) + " 0.01 0 0")
            desk.hear("b " + str(place) + " tell " + str(place + 1) + " spot pan " + str(place + 1))
        for place in range(200):
            desk.hear("c " + str(100 + place) + " go")
        self.assertEqual(len(desk.rows()), 400)
        self.assertEqual(desk.number_at(150), 51)
        self.assertEqual(desk.number_at(400), 100)
        self.assertEqual(desk.picture(400), {PAN: 100})


class HandedInAndTold(unittest.TestCase):
    def test_arguments(self):
        self.assertEqual(arguments_of(Desk), [("text", "")])
        desk = Desk()
        self.assertEqual(arguments_of(desk.hear), ["row"])
        self.assertEqual(arguments_of(desk.rows), [])
        for ask in (desk.picture, desk.number_at, desk.list_at):
            self.assertEqual(arguments_of(ask), ["top", ("bottom", 1)])
            self.assertEqual(ask(top=3, bottom=2), ask(3, 2))
        self.assertIsNone(desk.hear(row="a 1 go"))

    def test_kinds(self):
        desk = heard("a 0 go", text=LIST)
        self.assertIs(type(desk.picture(50)), dict)
        self.assertIs(type(desk.number_at(50)), int)
        self.assertIs(type(desk.list_at(50)), str)
        self.assertIs(type(desk.rows()), list)

    def test_what_is_told_is_the_asker_s_own(self):
        desk = heard("a 0 go", "b 0 fill x spot red 5", "b 0 move x 9", text=LIST)
        before = state(desk)
        rows = desk.rows()
        rows.reverse()
        rows.append("a 9 back")
        picture = desk.picture(50)
        kept = copy.deepcopy(picture)
        desk.hear("a 60 back")
        desk.hear("b 40 down 1000")
        desk.picture(50)
        self.assertEqual(picture, kept)
        picture.clear()
        self.assertEqual(desk.rows(),
                         ["a 0 go", "b 0 fill x spot red 5", "b 0 move x 9", "b 40 down 1000", "a 60 back"])
        self.assertNotEqual(state(desk), before)
        told = desk.rows()
        desk.hear("c 0 stop")
        self.assertEqual(len(told), 5)

    def test_what_is_only_asked_changes_nothing(self):
        for seed in range(30):
            chance = random.Random(seed)
            rows = woven(chance, some_hands(chance))
            text = written(short_list(seed))
            asked = heard(text=text)
            for row in rows:
                state(asked)
                asked.hear(row)
            self.assertEqual(state(asked), state(heard(*rows, text=text)))
            self.assertEqual(state(asked), state(asked))

    def test_desks_share_nothing(self):
        one = heard("a 0 go", "a 0 fill x spot red 5", text=LIST)
        other = Desk(LIST)
        self.assertEqual((other.rows(), other.picture(50), other.number_at(50)), ([], {}, 0))
        other.hear("b 0 put 3 0 0 0")
        self.assertEqual(one.list_at(50), LIST)
        self.assertEqual(Desk().rows(), [])


if __name__ == "__main__":
    unittest.main()
