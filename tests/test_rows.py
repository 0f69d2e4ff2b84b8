import random
import re
import unittest
from decimal import Decimal

from helper import (DICTS, LISTS, MOST, NO_LAMPS, NO_SIDES, NUMBERS, ODD, SIDES, TEXTS, TUPLES, WRONG_NUMBERS,
                    arguments_of, refused)
from lampcues.errors import NoRow
from lampcues.rows import row_of

# [36] as patterns, beside what each reads.
NAME = "[a-z]{1,8}"
KINDS = {
    "NUMBER": ("[1-9][0-9]{0,8}|1000000000", int),
    "WORTH": ("0|[1-9][0-9]{0,8}|1000000000", int),
    "LEVEL": ("0|[1-9][0-9]{0,2}|1000", int),
    "TIME": (r"(?:0|[1-9][0-9]{0,5})(?:\.[0-9]{0,2}[1-9])?|1000000", lambda word: int(Decimal(word) * 1000)),
    "LAMP": (NAME, str),
    "NAME": (NAME, str),
    "SIDE": ("blue|bright|green|pan|red|tilt", str),
}
FORMS = """go
back
goto NUMBER
stop
on
put NUMBER TIME TIME TIME
put NUMBER TIME TIME TIME follow TIME
out NUMBER
keep NUMBER
tell NUMBER LAMP SIDE WORTH
alone NUMBER LAMP SIDE WORTH
untell NUMBER LAMP SIDE
block NUMBER
unblock NUMBER
fill NAME LAMP SIDE WORTH
move NAME LEVEL
down LEVEL
spare LAMP""".split("\n")
# Words that each kind takes, edges among them, and such as it nearly takes.
GOOD = {
    "NUMBER": ["1", "9", "10", "40", "999999999", "1000000000"],
    "WORTH": ["0", "1", "10", "500", "999999999", "1000000000"],
    "LEVEL": ["0", "1", "9", "10", "500", "999", "1000"],
    "TIME": ["0", "1", "0.02", "1.25", "0.001", "0.5", "999999.999", "1000000", "10", "100.1"],
    "LAMP": ["a", "z", "spot", "abcdefgh", "go", "pan", "follow"],
    "NAME": ["a", "z", "left", "zzzzzzzz", "move", "bright"],
    "SIDE": list(SIDES),
}
NO_WHOLES = ["", "00", "01", "007", "+1", "-1", "-0", "1.0", "1.5", "1e3", "1_0", "0x1", "1,0", "a", "one", "1a", "a1",
             "1\n", "\n1", "1\t", "\u0661", "\uff11", "\u00b2", "None", "True", "1" * 50, "9" * 5000]
BAD = {
    "NUMBER": NO_WHOLES + ["0", "1000000001", "2000000000", "9999999999", "10000000000"],
    "WORTH": NO_WHOLES + ["1000000001", "9999999999", "10000000000"],
    "LEVEL": NO_WHOLES + ["1001", "1010", "2000", "9999", "10000", "1000000000"],
    "TIME": ["", "00", "01", "1.", ".5", "1.0", "1.50", "1.000", "0.0001", "1.2345", "1000000.001", "1000000.0",
             "1000001", "9999999", "10000000", "-1", "+1", "1,5", "1e3", "a", "1..5", "1.5.5", "01.5", "00.5", "1 5",
             "1.5\n", "\u0661", "0." + "0" * 2, "9" * 5000, "follow"],
    "LAMP": NO_LAMPS,
    "NAME": NO_LAMPS,
    "SIDE": NO_SIDES,
}


def plainly_read(row):
    """What [36] makes of a row: by a pattern for each form; None where it is none."""
    for form in FORMS:
        words = form.split(" ")
        pattern = " ".join("(" + KINDS[word][0] + ")" if word in KINDS else word for word in words)
        match = re.fullmatch("(" + NAME + ") (0|[1-9][0-9]{0,11}) " + pattern, row, re.ASCII)
        if match:
            kinds = [word for word in words if word in KINDS]
            things = [KINDS[kind][1](word) for kind, word in zip(kinds, match.groups()[2:], strict=True)]
            return match.group(1), int(match.group(2)), words[0], things
    return None


def some_row(chance):
    form = chance.choice(FORMS)
    words = [chance.choice(GOOD[word]) if word in KINDS else word for word in form.split(" ")]
    tick = chance.choice(["0", "1", "10", "1234", "999999999999", "100000000000"])
    return " ".join([chance.choice(GOOD["NAME"]), tick] + words)


def somewhat_changed(chance, row):
    """A row near to this one."""
    words = row.split(" ")
    place = chance.randrange(len(words))
    at = chance.randrange(len(row) + 1)
    way = chance.randrange(9)
    if way == 0:
        words.pop(place)
    elif way == 1:
        words.insert(place, chance.choice(words + ["", "0", "1", "follow", "pan", "stop"]))
    elif way == 2:
        words[place] = chance.choice(words + ["go", "0", "1000", "1001", "1.5", "1.50", "red", "follow", "tell"])
    elif way == 3:
        words[place] = "0" + words[place]
    elif way == 4:
        words[place] = words[place] + "0"
    elif way == 5:
        other = chance.randrange(len(words))
        words[place], words[other] = words[other], words[place]
    elif way == 6:
        return row[:at] + chance.choice(" 019.aZ\n\t-") + row[at:]
    elif way == 7:
        return row[:at] + row[at + 1:]
    else:
        return row[:at] + chance.choice(" 019.aZ") + row[at + 1:]
    return " ".join(words)


class EachForm(unittest.TestCase):
    def test_go(self):
        self.assertEqual(row_of("anna 0 go"), ("anna", 0, "go", []))

    def test_back(self):
        self.assertEqual(row_of("anna 10 back"), ("anna", 10, "back", []))

    def test_goto(self):
        self.assertEqual(row_of("a 999999999999 goto 1000000000"), ("a", 999999999999, "goto", [MOST]))

    def test_stop_and_on(self):
        self.assertEqual(row_of("abcdefgh 1 stop"), ("abcdefgh", 1, "stop", []))
        self.assertEqual(row_of("abcdefgh 1 on"), ("abcdefgh", 1, "on", []))

    def test_put(self):
        self.assertEqual(row_of("b 7 put 3 1.25 0.02 0"), ("b", 7, "put", [3, 1250, 20, 0]))

    def test_put_with_a_follow(self):
        self.assertEqual(row_of("b 7 put 3 1.25 0.02 0 follow 2"), ("b", 7, "put", [3, 1250, 20, 0, 2000]))
        self.assertEqual(row_of("b 7 put 3 0 0 0 follow 0"), ("b", 7, "put", [3, 0, 0, 0, 0]))

    def test_out_and_keep(self):
        self.assertEqual(row_of("b 7 out 3"), ("b", 7, "out", [3]))
        self.assertEqual(row_of("b 7 keep 1"), ("b", 7, "keep", [1]))

    def test_tell_alone_and_untell(self):
        self.assertEqual(row_of("b 7 tell 3 spot pan 40"), ("b", 7, "tell", [3, "spot", "pan", 40]))
        self.assertEqual(row_of("b 7 alone 3 spot bright 0"), ("b", 7, "alone", [3, "spot", "bright", 0]))
        self.assertEqual(row_of("b 7 untell 3 spot red"), ("b", 7, "untell", [3, "spot", "red"]))

    def test_block_and_unblock(self):
        self.assertEqual(row_of("b 7 block 3"), ("b", 7, "block", [3]))
        self.assertEqual(row_of("b 7 unblock 3"), ("b", 7, "unblock", [3]))

    def test_fill_and_move(self):
        self.assertEqual(row_of("b 7 fill left spot tilt 1000000000"), ("b", 7, "fill", ["left", "spot", "tilt", MOST]))
        self.assertEqual(row_of("b 7 move left 1000"), ("b", 7, "move", ["left", 1000]))

    def test_down_and_spare(self):
        self.assertEqual(row_of("b 7 down 0"), ("b", 7, "down", [0]))
        self.assertEqual(row_of("b 7 spare spot"), ("b", 7, "spare", ["spot"]))

    def test_names_like_deeds(self):
        self.assertEqual(row_of("go 1 go"), ("go", 1, "go", []))
        self.assertEqual(row_of("move 1 move move 1"), ("move", 1, "move", ["move", 1]))
        self.assertEqual(row_of("put 1 fill pan follow pan 1"), ("put", 1, "fill", ["pan", "follow", "pan", 1]))

    def test_kinds(self):
        told = row_of("b 7 put 3 1.25 0.02 0")
        self.assertIs(type(told), tuple)
        self.assertEqual([type(one) for one in told], [str, int, str, list])
        self.assertEqual([type(one) for one in told[3]], [int] * 4)
        self.assertEqual([type(one) for one in row_of("b 7 tell 3 spot pan 40")[3]], [int, str, str, int])

    def test_each_word_that_a_kind_takes(self):
        for form in FORMS:
            words = form.split(" ")
            for place, kind in enumerate(words):
                for word in GOOD.get(kind, []):
                    others = [GOOD[one][1] if one in KINDS else one for one in words]
                    row = " ".join(["a", "5"] + others[:place] + [word] + others[place + 1:])
                    told = row_of(row)
                    self.assertEqual(told, plainly_read(row))
                    self.assertEqual(told[:3], ("a", 5, words[0]))


class Near(unittest.TestCase):
    """Rows that are nearly some."""

    def test_words_too_few_or_too_many(self):
        for form in FORMS:
            words = ["a", "5"] + [GOOD[one][1] if one in KINDS else one for one in form.split(" ")]
            self.assertIsNotNone(row_of(" ".join(words)))
            for more in ("", "1", "a", "pan", "follow", "follow 1", "0 0 0", "go"):
                row = " ".join(words + [more])
                if plainly_read(row) is None:
                    refused(self, NoRow, row_of, row)
                else:
                    self.assertEqual((words[2], len(words), more), ("put", 7, "follow 1"))
            for count in range(len(words)):
                row = " ".join(words[:count])
                if plainly_read(row) is None:
                    refused(self, NoRow, row_of, row)
                else:
                    self.assertEqual((words[2], count), ("put", 7))

    def test_each_word_that_a_kind_does_not_take(self):
        for form in FORMS:
            words = form.split(" ")
            for place, kind in enumerate(words):
                for word in BAD.get(kind, []):
                    others = [GOOD[one][1] if one in KINDS else one for one in words]
                    refused(self, NoRow, row_of, " ".join(["a", "5"] + others[:place] + [word] + others[place + 1:]))

    def test_blanks(self):
        row = "anna 5 put 3 1 1 1 follow 2"
        self.assertIsNotNone(row_of(row))
        for place, sign in enumerate(row):
            if sign == " ":
                refused(self, NoRow, row_of, row[:place] + " " + row[place:])
                for other in ("\t", "\n", "", "  ", "_", "\u00a0", "\x0b", "\r"):
                    refused(self, NoRow, row_of, row[:place] + other + row[place + 1:])
        for other in (" ", "\n", "\t", "\r\n", "\x00"):
            refused(self, NoRow, row_of, other + row)
            refused(self, NoRow, row_of, row + other)
            refused(self, NoRow, row_of, "anna 5 go" + other)

    def test_ticks(self):
        for tick in ("0", "1", "10", "999999999999", "100000000000"):
            self.assertEqual(row_of("a " + tick + " go")[1], int(tick))
        for tick in NO_WHOLES + ["1000000000000", "9999999999999", "0999999999999", "000000000001"]:
            refused(self, NoRow, row_of, "a " + tick + " go")

    def test_hands(self):
        for hand in GOOD["NAME"]:
            self.assertEqual(row_of(hand + " 1 go")[0], hand)
        for hand in NO_LAMPS:
            refused(self, NoRow, row_of, hand + " 1 go")

    def test_deeds(self):
        for deed in ("", "Go", "GO", "g\u043e", "goes", "g", "list", "group", "cue", "follow", "go 1", "back 1", "goto",
                     "goto 0", "stop stop", "on 1", "put", "put 1", "put 1 1 1", "put 1 1 1 1 1",
                     "put 1 1 1 1 follow", "put 1 1 1 1 stop 1", "put 1 1 1 1 1 follow", "put follow 1 1 1 1 1",
                     "put 1 1 1 1 Follow 1", "put 1 1 1 1 follow 1 follow 1", "put 1 stop 1 1 1", "out", "keep",
                     "out 1 keep", "tell 1 spot pan", "tell spot pan 1", "tell 1 pan 1", "tell 1 pan spot 1",
                     "alone 1 spot pan", "untell 1 spot pan 1", "untell 1 spot", "block", "unblock", "block 1 1",
                     "unBlock 1", "fill left spot pan", "fill spot pan 1", "fill 1 spot pan 1", "move left",
                     "move 1 left", "move 1000", "down", "down left 1", "down spot", "spare", "spare 1", "spare a b",
                     "spare spot pan", "NUMBER", "goto NUMBER", "down LEVEL", "spare LAMP"):
            refused(self, NoRow, row_of, "a 1 " + deed)

    def test_parts_of_rows(self):
        for row in ("", " ", "a", "a ", "a 1", "a 1 ", "1 go", "go", "a go", "1 a go", "a 1 1 go", "a b 1 go"):
            refused(self, NoRow, row_of, row)

    def test_several_rows(self):
        refused(self, NoRow, row_of, "a 1 go\na 2 go")
        refused(self, NoRow, row_of, "a 1 go\n")

    def test_long_rows(self):
        refused(self, NoRow, row_of, "a 1 go" + " " * 19000)
        refused(self, NoRow, row_of, "a" * 19000)
        refused(self, NoRow, row_of, "a 1 goto " + "1" * 19000)

    def test_drawn(self):
        counts = [0, 0]
        for seed in range(12000):
            chance = random.Random(seed)
            row = some_row(chance)
            self.assertEqual(row_of(row), plainly_read(row))
            for place in range(chance.randrange(1, 3)):
                row = somewhat_changed(chance, row)
            told = plainly_read(row)
            counts[told is None] += 1
            if told is None:
                refused(self, NoRow, row_of, row)
            else:
                self.assertEqual(row_of(row), told)
        self.assertGreater(min(counts), 1000)


class OtherKinds(unittest.TestCase):
    def test_what_is_no_text(self):
        for thing in ODD + TUPLES + LISTS + DICTS + NUMBERS + WRONG_NUMBERS:
            refused(self, NoRow, row_of, thing)
        for thing in (b"a 1 go", ["a 1 go"], ("a", 1, "go", []), ["a", "1", "go"], {"a 1 go": 1}):
            refused(self, NoRow, row_of, thing)

    def test_texts(self):
        for thing in TEXTS:
            refused(self, NoRow, row_of, thing)

    def test_arguments(self):
        self.assertEqual(arguments_of(row_of), ["row"])
        self.assertEqual(row_of(row="a 1 go"), ("a", 1, "go", []))

    def test_what_is_told_is_the_asker_s_own(self):
        for row in ("a 1 go", "a 1 tell 3 spot pan 40"):
            told = row_of(row)
            kept = list(told[3])
            told[3].append(7)
            self.assertEqual(row_of(row)[3], kept)


if __name__ == "__main__":
    unittest.main()
