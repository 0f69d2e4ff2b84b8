import copy
import inspect
import random
import unittest
from collections import OrderedDict, defaultdict

from helper import (DICTS, LAMPS, LISTS, MOST, NO_LAMP_LISTS, NO_LEVELS, NO_NAMES, NO_SIDES, NO_SLOTS, NO_WORTHS,
                    NUMBERS, ODD, SIDES, SLOTS, TEXTS, TUPLES, PlainBoard, arguments_of, can_be_key, refused)
from lampcues.board import Board
from lampcues.errors import NoName, NoSlot, NoWorth

BRIGHT = ("spot", "bright")
PAN = ("spot", "pan")
RED = ("spot", "red")
WASH = ("wash", "bright")
NAMES = ("a", "b", "spot", "zzzzzzzz")


def done(*deeds):
    """A board to which these were done: each a method's name and what it takes."""
    board = Board()
    for word, *given in deeds:
        getattr(board, word)(*given)
    return board


def some_deed(chance, board):
    word = chance.choice(("fill", "fill", "fill", "group", "fill_group", "move", "move", "move", "down", "spare"))
    name = chance.choice(NAMES)
    worth = chance.choice((0, 0, 1, 2, 100, 200, 999, 1000, MOST))
    level = chance.choice((0, 0, 1, 500, 500, 999, 1000))
    told = [deed[1] for deed in board.log if deed[0] == "group"]
    if word == "fill" or (word == "fill_group" and not told):
        return ("fill", name, chance.choice(SLOTS), worth)
    if word == "group":
        return (word, name, chance.sample(LAMPS, chance.randrange(4)))
    if word == "fill_group":
        return (word, name, chance.choice(told), chance.choice(SIDES), worth)
    if word == "spare":
        return (word, name, chance.choice(LAMPS))
    return (word, name, level)


def some_look(chance):
    slots = chance.sample(SLOTS, chance.randrange(len(SLOTS)))
    return {slot: chance.choice((1, 2, 50, 100, 200, 500, 1000, MOST)) for slot in slots}


class AgainstThePlainBoard(unittest.TestCase):
    def test_all_deeds_woven_with_questions(self):
        wins = []
        for seed in range(150):
            chance = random.Random(seed)
            board = Board()
            plainly = PlainBoard()
            for place in range(40):
                deed = some_deed(chance, plainly)
                plainly.log.append(deed)
                self.assertIsNone(getattr(board, deed[0])(*deed[1:]))
                if chance.randrange(4) == 0:
                    look = some_look(chance)
                    before = dict(look)
                    self.assertEqual(board.mixed(look), plainly.mixed(look), (seed, plainly.log, look))
                    for slot in SLOTS:
                        wins.append(board.winner(look, slot))
                        self.assertEqual(wins[-1], plainly.winner(look, slot), (seed, plainly.log, look, slot))
                    self.assertEqual(look, before)
        self.assertGreater(min(wins.count(name) for name in NAMES + ("",)), 500)

    def test_many_faders_and_slots(self):
        slots = [(lamp, side) for lamp in "abcdefghijklmnop" for side in SIDES]
        board = Board()
        for place in range(100):
            name = "f" + "abcdefghij"[place // 10] + "abcdefghij"[place % 10]
            for slot in slots:
                board.fill(name, slot, 10000 + place)
            board.move(name, place * 10)
        mix = board.mixed({slot: 5 for slot in slots})
        self.assertEqual(len(mix), 96)
        for lamp, side in slots:
            self.assertEqual(mix[(lamp, side)], 10099 * 990 // 1000 if side == "bright" else 10099)
            self.assertEqual(board.winner({}, (lamp, side)), "fjj")


class NoFaders(unittest.TestCase):
    def test_the_look_as_it_is(self):
        for look in ({}, {PAN: 1}, {BRIGHT: MOST, PAN: 7, WASH: 1}):
            self.assertEqual(Board().mixed(look), look)
            for slot in SLOTS:
                self.assertEqual(Board().winner(look, slot), "")

    def test_a_fader_stands_at_0_and_holds_nothing_at_first(self):
        board = done(("fill", "a", BRIGHT, 900), ("fill", "a", PAN, 900), ("move", "b", 1000))
        self.assertEqual(board.mixed({PAN: 5, BRIGHT: 6}), {PAN: 5, BRIGHT: 6})
        self.assertEqual(board.mixed({}), {})
        self.assertEqual([board.winner({}, slot) for slot in (BRIGHT, PAN)], ["", ""])


class Bright(unittest.TestCase):
    def test_the_greatest(self):
        board = done(("fill", "a", BRIGHT, 100), ("fill", "b", BRIGHT, 400), ("move", "a", 1000), ("move", "b", 500))
        for worth, mix, winner in ((1, 200, "b"), (199, 200, "b"), (200, 200, ""), (201, 201, ""), (MOST, MOST, "")):
            self.assertEqual(board.mixed({BRIGHT: worth}), {BRIGHT: mix})
            self.assertEqual(board.winner({BRIGHT: worth}, BRIGHT), winner)
        self.assertEqual((board.mixed({}), board.winner({}, BRIGHT)), ({BRIGHT: 200}, "b"))

    def test_touches_are_nothing_to_it(self):
        board = done(("fill", "a", BRIGHT, 100), ("fill", "b", BRIGHT, 90), ("move", "a", 1000), ("move", "b", 1000))
        self.assertEqual((board.mixed({}), board.winner({}, BRIGHT)), ({BRIGHT: 100}, "a"))
        board.move("b", 1000)
        self.assertEqual((board.mixed({}), board.winner({}, BRIGHT)), ({BRIGHT: 100}, "a"))

    def test_alike_ones_the_look_first_then_by_name(self):
        board = done(("fill", "c", BRIGHT, 100), ("fill", "b", BRIGHT, 200), ("fill", "ab", BRIGHT, 400),
                     ("move", "b", 500), ("move", "c", 1000))
        self.assertEqual((board.mixed({}), board.winner({}, BRIGHT)), ({BRIGHT: 100}, "b"))
        self.assertEqual(board.winner({BRIGHT: 99}, BRIGHT), "b")
        self.assertEqual(board.winner({BRIGHT: 100}, BRIGHT), "")
        board.move("ab", 250)
        self.assertEqual(board.winner({BRIGHT: 99}, BRIGHT), "ab")
        board.move("b", 500)
        self.assertEqual(board.winner({BRIGHT: 99}, BRIGHT), "ab")
        self.assertEqual(board.winner({BRIGHT: 100}, BRIGHT), "")

    def test_alike_by_rounding(self):
        board = done(("fill", "b", BRIGHT, 101), ("fill", "a", BRIGHT, 100), ("move", "a", 990), ("move", "b", 990))
        self.assertEqual((board.mixed({}), board.winner({}, BRIGHT)), ({BRIGHT: 99}, "a"))
        self.assertEqual(board.winner({BRIGHT: 99}, BRIGHT), "")

    def test_names_go_as_texts_do(self):
        board = done(*[("fill", name, BRIGHT, 5) for name in ("b", "aab", "aa", "z", "ab")],
                     *[("move", name, 1000) for name in ("z", "ab", "aab", "b", "aa")])
        self.assertEqual(board.winner({}, BRIGHT), "aa")
        board.move("aa", 0)
        self.assertEqual(board.winner({}, BRIGHT), "aab")
        board.move("aab", 999)
        self.assertEqual(board.winner({}, BRIGHT), "ab")

    def test_where_all_come_to_0_the_look_wins(self):
        board = done(("fill", "a", BRIGHT, 0), ("fill", "b", BRIGHT, 9), ("move", "a", 1000), ("move", "b", 100))
        self.assertEqual((board.mixed({}), board.winner({}, BRIGHT)), ({}, ""))
        self.assertEqual((board.mixed({BRIGHT: 1}), board.winner({BRIGHT: 1}, BRIGHT)), ({BRIGHT: 1}, ""))

    def test_held_at_0_takes_nothing_from_the_look(self):
        board = done(("fill", "a", BRIGHT, 0), ("move", "a", 1000))
        self.assertEqual(board.mixed({BRIGHT: 70}), {BRIGHT: 70})

    def test_slots_by_themselves(self):
        board = done(("fill", "a", BRIGHT, 100), ("fill", "b", WASH, 60), ("move", "a", 500), ("move", "b", 500))
        self.assertEqual(board.mixed({("x", "bright"): 3}), {BRIGHT: 50, WASH: 30, ("x", "bright"): 3})
        self.assertEqual([board.winner({}, slot) for slot in (BRIGHT, WASH, ("x", "bright"))], ["a", "b", ""])

    def test_great_numbers(self):
        board = done(("fill", "a", BRIGHT, MOST), ("move", "a", 999))
        self.assertEqual(board.mixed({BRIGHT: 998999999}), {BRIGHT: 999000000})
        self.assertEqual(board.winner({BRIGHT: 998999999}, BRIGHT), "a")
        self.assertEqual(board.winner({BRIGHT: 999000000}, BRIGHT), "")


class OtherSides(unittest.TestCase):
    def test_touched_last_whatever_its_level(self):
        board = done(("fill", "a", PAN, 100), ("fill", "b", PAN, 70), ("move", "a", 1000), ("move", "b", 1))
        self.assertEqual((board.mixed({PAN: 500}), board.winner({PAN: 500}, PAN)), ({PAN: 70}, "b"))
        board.move("a", 2)
        self.assertEqual((board.mixed({PAN: 500}), board.winner({PAN: 500}, PAN)), ({PAN: 100}, "a"))

    def test_each_side_but_bright(self):
        for side in SIDES:
            slot = ("spot", side)
            board = done(("fill", "a", slot, 100), ("move", "a", 500))
            bright = side == "bright"
            self.assertEqual(board.mixed({slot: 70}), {slot: 70 if bright else 100})
            self.assertEqual(board.winner({slot: 70}, slot), "" if bright else "a")
            self.assertEqual(board.mixed({}), {slot: 50 if bright else 100})

    def test_moved_to_the_level_it_has_is_a_touch(self):
        board = done(("fill", "a", PAN, 1), ("fill", "b", PAN, 2), ("move", "a", 500), ("move", "b", 500))
        self.assertEqual(board.winner({}, PAN), "b")
        board.move("a", 500)
        self.assertEqual((board.mixed({}), board.winner({}, PAN)), ({PAN: 1}, "a"))

    def test_moved_to_0_tells_nothing(self):
        board = done(("fill", "a", PAN, 1), ("fill", "b", PAN, 2), ("move", "a", 500), ("move", "b", 500))
        board.move("b", 0)
        self.assertEqual((board.mixed({PAN: 9}), board.winner({PAN: 9}, PAN)), ({PAN: 1}, "a"))
        board.move("a", 0)
        self.assertEqual((board.mixed({PAN: 9}), board.winner({PAN: 9}, PAN)), ({PAN: 9}, ""))
        self.assertEqual(board.mixed({}), {})

    def test_moved_to_0_and_back_is_touched_last(self):
        board = done(("fill", "a", PAN, 1), ("fill", "b", PAN, 2), ("move", "a", 500), ("move", "b", 500),
                     ("move", "a", 0))
        self.assertEqual(board.winner({}, PAN), "b")
        board.move("a", 500)
        self.assertEqual((board.mixed({}), board.winner({}, PAN)), ({PAN: 1}, "a"))

    def test_held_at_0_stands_at_0(self):
        board = done(("fill", "a", PAN, 0), ("move", "a", 1))
        self.assertEqual((board.mixed({PAN: 9, RED: 4}), board.winner({PAN: 9}, PAN)), ({RED: 4}, "a"))

    def test_told_as_the_look_has_it_the_fader_wins(self):
        board = done(("fill", "a", PAN, 9), ("fill", "b", RED, 0), ("move", "a", 1), ("move", "b", 1))
        self.assertEqual((board.winner({PAN: 9}, PAN), board.winner({}, RED)), ("a", "b"))

    def test_only_those_that_hold_it(self):
        board = done(("fill", "a", PAN, 1), ("fill", "b", RED, 2), ("move", "a", 500), ("move", "b", 500),
                     ("move", "c", 500))
        self.assertEqual(board.mixed({PAN: 9, RED: 9}), {PAN: 1, RED: 2})
        self.assertEqual([board.winner({}, slot) for slot in (PAN, RED, ("spot", "tilt"))], ["a", "b", ""])

    def test_one_lamp_s_slot_is_not_another_s(self):
        board = done(("fill", "a", PAN, 1), ("move", "a", 500))
        self.assertEqual(board.mixed({("wash", "pan"): 9}), {("wash", "pan"): 9, PAN: 1})
        self.assertEqual(board.winner({}, ("wash", "pan")), "")


class Filling(unittest.TestCase):
    def test_is_no_touch(self):
        board = done(("fill", "a", PAN, 1), ("fill", "b", PAN, 2), ("move", "a", 500), ("move", "b", 500))
        board.fill("a", PAN, 7)
        self.assertEqual((board.mixed({}), board.winner({}, PAN)), ({PAN: 2}, "b"))
        board.group("all", ["spot"])
        board.fill_group("a", "all", "pan", 8)
        self.assertEqual((board.mixed({}), board.winner({}, PAN)), ({PAN: 2}, "b"))
        board.move("b", 0)
        self.assertEqual((board.mixed({}), board.winner({}, PAN)), ({PAN: 8}, "a"))

    def test_behind_a_move(self):
        board = done(("move", "b", 500), ("move", "a", 500), ("fill", "a", PAN, 1), ("fill", "b", PAN, 2))
        self.assertEqual((board.mixed({}), board.winner({}, PAN)), ({PAN: 1}, "a"))
        board.fill("c", BRIGHT, 80)
        board.fill("b", BRIGHT, 60)
        self.assertEqual(board.mixed({}), {PAN: 1, BRIGHT: 30})

    def test_anew_has_the_new_worth(self):
        board = done(("fill", "a", PAN, 1), ("fill", "a", BRIGHT, 1000), ("fill", "a", RED, 4), ("move", "a", 500))
        self.assertEqual(board.mixed({}), {PAN: 1, BRIGHT: 500, RED: 4})
        board.fill("a", PAN, 3)
        board.fill("a", BRIGHT, 10)
        self.assertEqual(board.mixed({}), {PAN: 3, BRIGHT: 5, RED: 4})
        board.fill("a", PAN, 0)
        self.assertEqual(board.mixed({PAN: 6}), {BRIGHT: 5, RED: 4})

    def test_a_worth_at_the_edges(self):
        board = done(("move", "a", 1000), ("fill", "a", PAN, MOST), ("fill", "a", BRIGHT, MOST), ("fill", "a", RED, 0))
        self.assertEqual(board.mixed({RED: 1}), {PAN: MOST, BRIGHT: MOST})

    def test_levels_at_the_edges(self):
        board = done(("fill", "a", BRIGHT, 1000))
        for level in (0, 1, 999, 1000):
            board.move("a", level)
            self.assertEqual(board.mixed({}).get(BRIGHT, 0), level)


class Groups(unittest.TestCase):
    def test_one_side_of_all_its_lamps(self):
        board = done(("group", "front", ["spot", "wash", "a"]), ("move", "x", 1000),
                     ("fill_group", "x", "front", "red", 7))
        self.assertEqual(board.mixed({}), {("spot", "red"): 7, ("wash", "red"): 7, ("a", "red"): 7})
        self.assertEqual([board.winner({}, slot) for slot in (RED, PAN)], ["x", ""])
        board.fill_group("x", "front", "bright", 0)
        board.fill_group("x", "front", "red", MOST)
        self.assertEqual(board.mixed({}), {("spot", "red"): MOST, ("wash", "red"): MOST, ("a", "red"): MOST})

    def test_what_it_held_else_stays(self):
        board = done(("group", "g", ["spot"]), ("move", "x", 1000), ("fill", "x", PAN, 3), ("fill", "x", RED, 4),
                     ("fill", "x", ("wash", "red"), 5), ("fill_group", "x", "g", "red", 6))
        self.assertEqual(board.mixed({}), {PAN: 3, RED: 6, ("wash", "red"): 5})

    def test_told_anew_is_another_from_then_on(self):
        board = done(("group", "g", ["spot", "a"]), ("move", "x", 1000), ("fill_group", "x", "g", "red", 6),
                     ("group", "g", ["wash", "a"]))
        self.assertEqual(board.mixed({}), {RED: 6, ("a", "red"): 6})
        board.fill_group("x", "g", "red", 7)
        self.assertEqual(board.mixed({}), {RED: 6, ("a", "red"): 7, ("wash", "red"): 7})
        board.fill_group("x", "g", "pan", 8)
        self.assertEqual(board.mixed({}), {RED: 6, ("a", "red"): 7, ("wash", "red"): 7, ("a", "pan"): 8,
                                           ("wash", "pan"): 8})

    def test_told_changes_nothing_yet(self):
        board = done(("move", "g", 1000), ("group", "g", ["spot"]))
        self.assertEqual(board.mixed({PAN: 4}), {PAN: 4})

    def test_without_lamps(self):
        board = done(("group", "g", []), ("move", "x", 1000), ("fill_group", "x", "g", "red", 6))
        self.assertEqual(board.mixed({RED: 1}), {RED: 1})
        board.group("h", ["spot"])
        board.group("h", [])
        board.fill_group("x", "h", "red", 6)
        self.assertEqual(board.mixed({RED: 1}), {RED: 1})

    def test_a_lamp_twice(self):
        board = done(("group", "g", ["spot", "spot"]), ("move", "x", 1000), ("fill_group", "x", "g", "red", 6))
        self.assertEqual(board.mixed({}), {RED: 6})

    def test_a_group_may_fill_many_faders(self):
        board = done(("group", "g", ["spot"]), ("fill_group", "x", "g", "red", 6), ("fill_group", "y", "g", "red", 7),
                     ("move", "y", 1), ("move", "x", 1))
        self.assertEqual((board.mixed({}), board.winner({}, RED)), ({RED: 6}, "x"))

    def test_a_list_changed_behind_the_call(self):
        lamps = ["spot"]
        board = done(("group", "g", lamps))
        self.assertEqual(lamps, ["spot"])
        lamps.append("wash")
        lamps[0] = "a"
        board.move("x", 1)
        board.fill_group("x", "g", "red", 6)
        self.assertEqual((board.mixed({}), lamps), ({RED: 6}, ["a", "wash"]))


class Downs(unittest.TestCase):
    def test_bright_alone_goes_down(self):
        board = done(("down", "me", 250))
        self.assertEqual(board.mixed({BRIGHT: 255, WASH: 1, PAN: 255, RED: 3}), {BRIGHT: 191, PAN: 255, RED: 3})

    def test_behind_all_mixing(self):
        board = done(("fill", "a", BRIGHT, 3), ("move", "a", 667), ("down", "me", 500))
        # 2 by the fader, of which 1 is left; taken down ahead of it, the fader's 3 would be 1, and come to 0.
        self.assertEqual(board.mixed({}), {BRIGHT: 1})
        self.assertEqual(board.mixed({BRIGHT: 3}), {BRIGHT: 1})
        self.assertEqual(board.mixed({BRIGHT: 4}), {BRIGHT: 2})

    def test_the_greatest_of_several_hands(self):
        board = done(("down", "me", 200), ("down", "you", 700), ("down", "they", 300))
        self.assertEqual(board.mixed({BRIGHT: 1000}), {BRIGHT: 300})
        board.down("you", 100)
        self.assertEqual(board.mixed({BRIGHT: 1000}), {BRIGHT: 700})
        board.down("they", 0)
        self.assertEqual(board.mixed({BRIGHT: 1000}), {BRIGHT: 800})
        board.down("me", 0)
        self.assertEqual(board.mixed({BRIGHT: 1000}), {BRIGHT: 900})
        board.down("you", 0)
        self.assertEqual(board.mixed({BRIGHT: 1000}), {BRIGHT: 1000})

    def test_edges(self):
        board = done(("down", "me", 1000))
        self.assertEqual(board.mixed({BRIGHT: MOST, PAN: 1}), {PAN: 1})
        board.down("me", 999)
        self.assertEqual(board.mixed({BRIGHT: MOST, WASH: 999}), {BRIGHT: 1000000})
        board.down("me", 1)
        self.assertEqual(board.mixed({BRIGHT: MOST, WASH: 1}), {BRIGHT: 999000000})

    def test_a_spared_lamp(self):
        board = done(("spare", "me", "spot"), ("down", "me", 500))
        self.assertEqual(board.mixed({BRIGHT: 100, WASH: 100}), {BRIGHT: 100, WASH: 50})
        board.down("me", 900)
        self.assertEqual(board.mixed({BRIGHT: 100, WASH: 100}), {BRIGHT: 100, WASH: 10})
        board.spare("me", "wash")
        self.assertEqual(board.mixed({BRIGHT: 100, WASH: 100}), {BRIGHT: 100, WASH: 100})

    def test_spared_behind_the_down(self):
        board = done(("down", "me", 500), ("spare", "me", "spot"))
        self.assertEqual(board.mixed({BRIGHT: 100, WASH: 100}), {BRIGHT: 100, WASH: 50})

    def test_spared_twice_is_spared(self):
        board = done(("down", "me", 500), ("spare", "me", "spot"), ("spare", "me", "spot"))
        self.assertEqual(board.mixed({BRIGHT: 100}), {BRIGHT: 100})

    def test_each_hand_spares_for_itself(self):
        board = done(("down", "me", 800), ("spare", "me", "spot"), ("down", "you", 300), ("spare", "you", "wash"))
        self.assertEqual(board.mixed({BRIGHT: 1000, WASH: 1000, ("a", "bright"): 1000}),
                         {BRIGHT: 700, WASH: 200, ("a", "bright"): 200})
        board.spare("you", "spot")
        self.assertEqual(board.mixed({BRIGHT: 1000, WASH: 1000}), {BRIGHT: 1000, WASH: 200})

    def test_the_greatest_hand_spares_and_the_next_counts(self):
        board = done(("down", "me", 900), ("down", "you", 500), ("down", "they", 100), ("spare", "me", "spot"))
        self.assertEqual(board.mixed({BRIGHT: 1000}), {BRIGHT: 500})

    def test_a_hand_that_takes_nothing_down_spares_nothing_from_others(self):
        board = done(("spare", "me", "spot"), ("down", "you", 500))
        self.assertEqual(board.mixed({BRIGHT: 100}), {BRIGHT: 50})

    def test_what_faders_tell_goes_down_too_also_at_slots_that_the_look_has_not(self):
        board = done(("fill", "a", WASH, 100), ("fill", "a", PAN, 100), ("move", "a", 1000), ("down", "me", 400))
        self.assertEqual(board.mixed({BRIGHT: 10}), {BRIGHT: 6, WASH: 60, PAN: 100})

    def test_the_winner_stays(self):
        board = done(("fill", "a", BRIGHT, 100), ("move", "a", 1000))
        for look in ({}, {BRIGHT: 99}, {BRIGHT: 100}, {BRIGHT: 101}):
            before = board.winner(look, BRIGHT)
            board.down("me", 1000)
            self.assertEqual(board.winner(look, BRIGHT), before)
            board.down("me", 0)


class Names(unittest.TestCase):
    def test_a_fader_a_group_and_a_hand_of_one_name(self):
        board = done(("fill", "x", BRIGHT, 100), ("group", "x", ["wash"]), ("down", "x", 500), ("spare", "x", "wash"),
                     ("move", "x", 800), ("fill_group", "x", "x", "bright", 50))
        self.assertEqual(board.mixed({("a", "bright"): 10}), {BRIGHT: 40, WASH: 40, ("a", "bright"): 5})
        board.down("x", 0)
        self.assertEqual(board.mixed({}), {BRIGHT: 80, WASH: 40})
        board.move("x", 0)
        self.assertEqual(board.mixed({}), {})

    def test_edges(self):
        for name in ("a", "z", "abcdefgh", "zzzzzzzz", "bright", "pan"):
            board = done(("fill", name, PAN, 3), ("move", name, 1), ("group", name, ["abcdefgh", "z"]),
                         ("fill_group", name, name, "tilt", 4), ("down", name, 1), ("spare", name, "zzzzzzzz"))
            self.assertEqual(board.mixed({}), {PAN: 3, ("abcdefgh", "tilt"): 4, ("z", "tilt"): 4})
            self.assertEqual(board.winner({}, PAN), name)


class Refusals(unittest.TestCase):
    """Each with what would be taken, but for one argument; and two at once, of which the first goes first."""

    def board(self):
        return done(("group", "g", ["spot"]), ("fill", "a", PAN, 3), ("fill", "a", BRIGHT, 40), ("move", "a", 500),
                    ("down", "me", 100), ("spare", "me", "wash"))

    def assert_refused(self, kind, word, *given):
        board = self.board()
        looks = ({}, {PAN: 1, BRIGHT: 5, WASH: 70}, {RED: 9})
        before = [board.mixed(look) for look in looks] + [board.winner(look, BRIGHT) for look in looks]
        refused(self, kind, getattr(board, word), *given)
        self.assertEqual([board.mixed(look) for look in looks] + [board.winner(look, BRIGHT) for look in looks], before)
        return board

    def test_names(self):
        for thing in NO_NAMES:
            self.assert_refused(NoName, "fill", thing, PAN, 1)
            self.assert_refused(NoName, "group", thing, ["spot"])
            self.assert_refused(NoName, "fill_group", thing, "g", "red", 1)
            self.assert_refused(NoName, "fill_group", "a", thing, "red", 1)
            self.assert_refused(NoName, "move", thing, 1)
            self.assert_refused(NoName, "down", thing, 1)
            self.assert_refused(NoName, "spare", thing, "spot")
            self.assert_refused(NoName, "spare", "me", thing)

    def test_lists_of_lamps(self):
        for thing in NO_LAMP_LISTS:
            board = self.assert_refused(NoName, "group", "g", thing)
            board.fill_group("a", "g", "tilt", 7)
            self.assertEqual(board.mixed({}), {PAN: 3, BRIGHT: 18, ("spot", "tilt"): 7})

    def test_a_refused_group_is_not_told(self):
        board = Board()
        refused(self, NoName, board.group, "g", ["spot", "Spot"])
        refused(self, NoName, board.fill_group, "a", "g", "red", 1)

    def test_a_group_not_told(self):
        for name in ("a", "me", "h", "gg", "spot"):
            self.assert_refused(NoName, "fill_group", "a", name, "red", 1)
            refused(self, NoName, Board().fill_group, "a", name, "red", 1)

    def test_slots(self):
        for thing in NO_SLOTS:
            self.assert_refused(NoSlot, "fill", "a", thing, 1)
            self.assert_refused(NoSlot, "winner", {}, thing)

    def test_sides(self):
        things = NO_SIDES + ODD + TUPLES + LISTS + DICTS + NUMBERS + [PAN, ("pan",), ["pan"]]
        for thing in things + [thing for thing in TEXTS if thing != "bright"]:
            self.assert_refused(NoSlot, "fill_group", "a", "g", thing, 1)
            board = done(("group", "g", []))
            refused(self, NoSlot, board.fill_group, "a", "g", thing, 1)

    def test_worths(self):
        for thing in NO_WORTHS:
            self.assert_refused(NoWorth, "fill", "a", PAN, thing)
            self.assert_refused(NoWorth, "fill_group", "a", "g", "red", thing)
            board = done(("group", "g", []))
            refused(self, NoWorth, board.fill_group, "a", "g", "red", thing)

    def test_levels(self):
        for thing in NO_LEVELS:
            self.assert_refused(NoWorth, "move", "a", thing)
            self.assert_refused(NoWorth, "down", "me", thing)

    def test_a_refused_move_is_no_touch(self):
        board = done(("fill", "a", PAN, 1), ("fill", "b", PAN, 2), ("move", "a", 500), ("move", "b", 500))
        refused(self, NoWorth, board.move, "a", 1001)
        self.assertEqual(board.winner({}, PAN), "b")
        refused(self, NoWorth, board.move, "c", -1)
        board.fill("c", PAN, 3)
        self.assertEqual(board.winner({}, PAN), "b")

    def test_no_dicts(self):
        for thing in ODD + TUPLES + LISTS + TEXTS + NUMBERS + [[(PAN, 1)], PAN]:
            self.assert_refused(NoSlot, "mixed", thing)
            self.assert_refused(NoSlot, "winner", thing, PAN)

    def test_keys_that_are_no_slots(self):
        for thing in [thing for thing in NO_SLOTS if can_be_key(thing)]:
            # Beside another lamp's slot: some of these things are held to be alike to a slot of this one.
            for look in ({thing: 1}, {WASH: 1, thing: 1}, {thing: 1, WASH: 1}, {WASH: 0, thing: 1}, {thing: None}):
                self.assert_refused(NoSlot, "mixed", look)
                self.assert_refused(NoSlot, "winner", look, PAN)

    def test_worths_of_a_look(self):
        for thing in [0] + NO_WORTHS:
            for look in ({PAN: thing}, {PAN: 1, RED: thing}, {BRIGHT: thing, PAN: 1}):
                self.assert_refused(NoWorth, "mixed", look)
                self.assert_refused(NoWorth, "winner", look, PAN)

    def test_worths_of_a_look_at_the_edges_are_taken(self):
        look = {PAN: 1, BRIGHT: MOST, RED: MOST, WASH: 1}
        self.assertEqual(Board().mixed(look), look)

    def test_the_first_argument_s_refusal_goes_first(self):
        for kind, word, *given in (
                (NoName, "fill", "A", None, None), (NoSlot, "fill", "a", None, None),
                (NoName, "fill", None, PAN, -1), (NoSlot, "fill", "a", ("spot", "up"), -1),
                (NoName, "fill_group", "A", "g", None, None), (NoName, "fill_group", "a", "A", None, None),
                (NoName, "fill_group", "a", "h", None, None), (NoName, "fill_group", "a", "h", "red", -1),
                (NoSlot, "fill_group", "a", "g", "up", -1), (NoSlot, "fill_group", "a", "g", None, None),
                (NoName, "move", "A", -1), (NoName, "down", "A", -1), (NoName, "group", None, None),
                (NoSlot, "mixed", {PAN: 0, "pan": 1}), (NoSlot, "mixed", {PAN: None, ("spot", "up"): None}),
                (NoWorth, "winner", {PAN: 0}, None), (NoSlot, "winner", {PAN: 0, "pan": 0}, PAN),
                (NoWorth, "winner", {PAN: MOST + 1}, ("spot", "up")), (NoSlot, "winner", None, None)):
            self.assert_refused(kind, word, *given)


class Ownership(unittest.TestCase):
    def test_looks_handed_in_stay_and_are_not_kept(self):
        board = done(("fill", "a", BRIGHT, 100), ("fill", "a", PAN, 5), ("move", "a", 500), ("down", "me", 500))
        look = {BRIGHT: 10, RED: 3, PAN: 9}
        mix = board.mixed(look)
        board.winner(look, PAN)
        self.assertEqual(look, {BRIGHT: 10, RED: 3, PAN: 9})
        look.clear()
        self.assertEqual(mix, {BRIGHT: 25, RED: 3, PAN: 5})
        self.assertEqual(board.mixed({}), {BRIGHT: 25, PAN: 5})

    def test_looks_told_are_the_asker_s_own(self):
        for board in (Board(), done(("fill", "a", BRIGHT, 100), ("move", "a", 500))):
            look = {RED: 3}
            one = board.mixed(look)
            kept = board.mixed(look)
            self.assertIsNot(one, look)
            told = dict(kept)
            one.clear()
            one[PAN] = 77
            self.assertEqual((board.mixed(look), look), (told, {RED: 3}))
            board.fill("a", RED, 9)
            board.move("a", 1000)
            board.down("me", 1000)
            self.assertEqual(kept, told)

    def test_asking_changes_nothing(self):
        board = done(("fill", "a", PAN, 1), ("fill", "b", PAN, 2), ("move", "b", 500), ("move", "a", 500))
        before = copy.deepcopy(vars(board))
        for look in ({}, {PAN: 9, BRIGHT: 5}):
            board.mixed(look)
            for slot in SLOTS:
                board.winner(look, slot)
        self.assertEqual(vars(board), before)
        self.assertEqual(list(board.mixed({}).items()), [(PAN, 1)])

    def test_dicts_of_narrower_kinds_are_looks(self):
        look = defaultdict(int, {PAN: 3})
        board = done(("fill", "a", BRIGHT, 100), ("move", "a", 500))
        mix = board.mixed(look)
        self.assertEqual((mix, type(mix)), ({PAN: 3, BRIGHT: 50}, dict))
        self.assertEqual((board.winner(look, RED), look), ("", {PAN: 3}))
        self.assertEqual(board.mixed(OrderedDict({PAN: 3})), {PAN: 3, BRIGHT: 50})

    def test_two_boards_do_not_touch(self):
        one = Board()
        other = Board()
        for word, *given in (("fill", "a", BRIGHT, 100), ("move", "a", 500), ("group", "g", ["spot"]),
                             ("down", "me", 300), ("spare", "me", "wash")):
            getattr(one, word)(*given)
        self.assertEqual(other.mixed({BRIGHT: 10, WASH: 10}), {BRIGHT: 10, WASH: 10})
        refused(self, NoName, other.fill_group, "a", "g", "red", 1)
        other.down("me", 500)
        self.assertEqual(other.mixed({WASH: 10}), {WASH: 5})
        self.assertEqual(one.mixed({}), {BRIGHT: 35})


class Arguments(unittest.TestCase):
    def test_names(self):
        self.assertEqual(list(inspect.signature(Board).parameters), [])
        for word, names in (("fill", ["fader", "slot", "worth"]), ("group", ["name", "lamps"]),
                            ("fill_group", ["fader", "name", "side", "worth"]), ("move", ["fader", "level"]),
                            ("down", ["hand", "level"]), ("spare", ["hand", "lamp"]), ("mixed", ["look"]),
                            ("winner", ["look", "slot"])):
            self.assertEqual(arguments_of(getattr(Board(), word)), names)

    def test_by_names(self):
        board = Board()
        for told in (board.fill(worth=100, slot=BRIGHT, fader="a"), board.group(lamps=["wash"], name="g"),
                     board.fill_group(worth=10, side="pan", name="g", fader="a"), board.move(level=500, fader="a"),
                     board.down(level=100, hand="me"), board.spare(lamp="wash", hand="me")):
            self.assertIsNone(told)
        self.assertEqual(board.mixed(look={WASH: 10}), {BRIGHT: 45, ("wash", "pan"): 10, WASH: 10})
        self.assertEqual(board.winner(slot=BRIGHT, look={}), "a")


if __name__ == "__main__":
    unittest.main()
