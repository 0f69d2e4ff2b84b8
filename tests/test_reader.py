import inspect
import itertools
import random
import re
import unittest
from fractions import Fraction

from helper import (DICTS, LISTS, MOST, NUMBERS, ODD, SIDES, TUPLES, WRONG_NUMBERS, cue, plain, refused, some_list)
from lampcues.cues import Cue, Part, alike
from lampcues.errors import NoText
from lampcues.reader import read, whole_of
from lampcues.writer import written

PAN = ("spot", "pan")
TIME = r"(?:0|[1-9][0-9]*)(?:\.[0-9]{0,2}[1-9])?"
WHOLE = r"(?:0|[1-9][0-9]*)"
CUE_ROW = re.compile(f"cue ({WHOLE})( stop)?(?: follow ({TIME}))?")
PART_ROW = re.compile(f"part ({TIME}) ({TIME}) ({TIME})")
TELLING_ROW = re.compile(f"(on|alone) ([a-z]{{1,8}}) ({'|'.join(SIDES)}) ({WHOLE})")


def small(numbers):
    # Python makes no number of very many figures, so these are told great by their length.
    return all(len(number) < 50 and Fraction(number) <= most for number, most in numbers)


def tells_a_list(rows):
    """Whether these rows tell a list: [12] and [13] by forms of whole rows, not by reading on."""
    cues = []
    for row in rows:
        if found := CUE_ROW.fullmatch(row):
            if not small([(found[1], MOST), (found[3] or "0", MOST // 1000)]):
                return False
            cues.append((int(found[1]), []))
        elif found := PART_ROW.fullmatch(row):
            if not cues or not small([(found[place], MOST // 1000) for place in (1, 2, 3)]):
                return False
            cues[-1][1].append([])
        elif found := TELLING_ROW.fullmatch(row):
            if not cues or not cues[-1][1] or not small([(found[4], MOST)]):
                return False
            cues[-1][1][-1].append((found[1], (found[2], found[3])))
        else:
            return False
    numbers = [0] + [number for number, parts in cues]
    if numbers != sorted(set(numbers)):
        return False
    return all(1 <= len(parts) <= 9 and parts_are_apart(parts) for number, parts in cues)


def parts_are_apart(parts):
    if any(len(part) != len(set(part)) for part in parts):
        return False
    slots = [slot for part in parts for slot in {slot for word, slot in part}]
    return len(slots) == len(set(slots))


def can_go_on(rows):
    """Whether these rows are the first ones of a text that tells a list: what may be lacking is one part."""
    return tells_a_list(rows) or tells_a_list(rows + ["part 0 0 0"])


def fault_row(text):
    """The row of [13], or None where the text tells a list."""
    rows = text.split("\n") if text else []
    for place in range(len(rows)):
        if not can_go_on(rows[:place + 1]):
            return place
    return None if tells_a_list(rows) else len(rows)


def text_of(*rows):
    return "\n".join(rows)


class Read(unittest.TestCase):
    def test_a_whole_list(self):
        cues = read(text_of(
            "cue 1", "part 1.25 0.02 0", "on spot bright 1000", "on spot pan 5", "alone spot pan 7", "alone wash red 0",
            "cue 10 stop follow 1.5", "part 0 0 0", "part 3 1000000 0.001", "on a tilt 1000000000",
            "cue 11 stop", "part 0 0 0", "alone a blue 1",
            "cue 1000000000 follow 0", "part 0 0 0"))
        self.assertEqual(plain(cues), [
            (1, [({PAN: 5, ("spot", "bright"): 1000}, {("wash", "red"): 0, PAN: 7}, 1250, 20, 0)], False, None),
            (10, [({}, {}, 0, 0, 0), ({("a", "tilt"): MOST}, {}, 3000, MOST, 1)], True, 1500),
            (11, [({}, {("a", "blue"): 1}, 0, 0, 0)], True, None),
            (MOST, [({}, {}, 0, 0, 0)], False, 0),
        ])

    def test_kinds(self):
        cues = read(text_of("cue 1 stop", "part 0 0 0", "on a pan 5", "alone a pan 0", "cue 2", "part 1 1 1"))
        self.assertIs(type(cues), list)
        self.assertEqual([type(one) for one in cues], [Cue, Cue])
        self.assertEqual([type(part) for one in cues for part in one.parts], [Part, Part])
        self.assertIs(cues[0].stops, True)
        self.assertIs(cues[1].stops, False)
        self.assertIsNone(cues[1].follow)

    def test_the_text_without_signs(self):
        self.assertEqual(read(""), [])

    def test_what_is_written_is_read_as_the_same_list(self):
        for seed in range(400):
            cues = some_list(seed)
            text = written(cues)
            again = read(text)
            self.assertEqual(plain(again), plain(cues))
            self.assertIs(alike(again, cues), True)
            self.assertEqual(written(again), text)

    def test_rows_of_a_part_in_any_order_also_mixed(self):
        rows = ["on a pan 1", "on b tilt 0", "alone a pan 3", "alone c red 4"]
        for mixed in itertools.permutations(rows):
            text = text_of("cue 1", "part 0 0 0", "on z pan 9", "part 1 2 3", *mixed)
            self.assertEqual(plain(read(text)), [
                (1, [({("z", "pan"): 9}, {}, 0, 0, 0),
                     ({("a", "pan"): 1, ("b", "tilt"): 0}, {("a", "pan"): 3, ("c", "red"): 4}, 1000, 2000, 3000)],
                 False, None)])

    def test_mixed_rows_of_all_lists(self):
        chance = random.Random(5)
        for seed in range(150):
            cues = some_list(seed)
            rows = []
            held = []
            for row in written(cues).split("\n") + ["cue"]:
                if row.startswith(("on", "alone")):
                    held.append(row)
                else:
                    chance.shuffle(held)
                    rows += held + [row]
                    held = []
            self.assertEqual(plain(read("\n".join(rows[:-1]) if cues else "")), plain(cues))

    def test_nine_parts_and_edges(self):
        text = text_of("cue 1000000000 stop follow 1000000", *["part 1000000 1000000 1000000"] * 9,
                       "on abcdefgh blue 0", "alone abcdefgh blue 1000000000")
        cues = read(text)
        self.assertEqual((len(cues[0].parts), cues[0].follow, cues[0].parts[8].wait), (9, MOST, MOST))
        self.assertEqual(cues[0].parts[8].alone, {("abcdefgh", "blue"): MOST})
        self.assertEqual(written(cues), text)

    def test_a_slot_told_again_by_another_cue(self):
        text = text_of("cue 1", "part 0 0 0", "on a pan 1", "cue 2", "part 0 0 0", "on a pan 1", "alone a pan 1")
        self.assertEqual(len(read(text)), 2)

    def test_many_cues(self):
        cues = [Cue(place + 1, [Part({PAN: place}, {PAN: 1})]) for place in range(200)]
        self.assertEqual(plain(read(written(cues))), plain(cues))

    def test_each_reading_tells_a_list_of_its_own(self):
        text = text_of("cue 1", "part 0 0 0", "on a pan 1")
        one = read(text)
        other = read(text)
        one.append(cue(2))
        self.assertEqual(len(other), 1)
        self.assertIsNot(one[0].parts[0].tells, other[0].parts[0].tells)
        none = read("")
        none.append(cue(1))
        self.assertEqual(read(""), [])

    def test_argument(self):
        self.assertEqual(list(inspect.signature(read).parameters), ["text"])
        self.assertEqual(read(text=""), [])


class Refused(unittest.TestCase):
    def assert_row(self, row, *rows):
        text = "\n".join(rows)
        fault = refused(self, NoText, read, text)
        self.assertEqual(fault.row, row, repr(text))
        self.assertEqual(fault_row(text), row, repr(text))

    def test_what_is_no_text(self):
        for thing in ODD + TUPLES + LISTS + DICTS + NUMBERS + WRONG_NUMBERS + [["cue 1", "part 0 0 0"], b"cue 1"]:
            self.assertEqual(refused(self, NoText, read, thing).row, 0)

    def test_rows_without_signs(self):
        self.assert_row(0, "", "")
        self.assert_row(0, "", "", "")
        self.assert_row(0, "", "cue 1", "part 0 0 0")
        self.assert_row(1, "cue 1", "", "part 0 0 0")
        self.assert_row(1, "cue 1", "")
        self.assert_row(2, "cue 1", "part 0 0 0", "")
        self.assert_row(2, "cue 1", "part 0 0 0", "", "")
        self.assert_row(3, "cue 1", "part 0 0 0", "on a pan 1", "", "on a tilt 1")

    def test_a_cue_without_a_part_at_the_end(self):
        self.assert_row(1, "cue 1")
        self.assert_row(1, "cue 1 stop follow 1")
        self.assert_row(3, "cue 1", "part 0 0 0", "cue 2")
        self.assert_row(5, "cue 1", "part 0 0 0", "on a pan 1", "part 0 0 0", "cue 2")

    def test_a_cue_without_a_part_ahead_of_the_next(self):
        self.assert_row(1, "cue 1", "cue 2", "part 0 0 0")
        self.assert_row(1, "cue 1", "cue 2")
        self.assert_row(1, "cue 1", "cue 1")
        self.assert_row(1, "cue 1", "cue")
        self.assert_row(3, "cue 1", "part 0 0 0", "cue 2", "cue 3", "part 0 0 0")

    def test_rows_out_of_place(self):
        self.assert_row(0, "part 0 0 0")
        self.assert_row(0, "on a pan 1")
        self.assert_row(0, "part 0 0 0", "cue 1")
        self.assert_row(1, "cue 1", "on a pan 1", "part 0 0 0")
        self.assert_row(1, "cue 1", "alone a pan 1")
        self.assert_row(3, "cue 1", "part 0 0 0", "cue 2", "on a pan 1")

    def test_numbers_that_do_not_rise(self):
        self.assert_row(2, "cue 2", "part 0 0 0", "cue 1", "part 0 0 0")
        self.assert_row(2, "cue 2", "part 0 0 0", "cue 2", "part 0 0 0")
        self.assert_row(4, "cue 2", "part 0 0 0", "cue 9", "part 0 0 0", "cue 3")
        self.assert_row(4, "cue 2", "part 0 0 0", "cue 10", "part 0 0 0", "cue 9")
        self.assert_row(2, "cue 1000000000", "part 0 0 0", "cue 1000000001")

    def test_cue_rows(self):
        for row in ("cue", "cue ", "cue 0", "cue 01", "cue 1000000001", "cue -1", "cue +1", "cue 1.5", "cue 1.0",
                    "cue a", "cue 1 ", " cue 1", "cue  1", "cue 1 stop ", "cue 1  stop", "cue 1 stop stop",
                    "cue 1 Stop", "cue 1 follow", "cue 1 follow ", "cue 1 stop follow", "cue 1 follow 1 stop",
                    "cue 1 follow 01",
                    "cue 1 follow 1.0", "cue 1 follow 1.50", "cue 1 follow 1000000.001", "cue 1 follow 1000001",
                    "cue 1 follow -1", "cue 1 follow 1 1", "cue 1 follow 1 follow 1", "cue 1 stop follow 1 2",
                    "cue 1 stop 1", "cue 1 1", "cue 1 2 3", "cue 1 stops", "cue 1 None", "cue 1 follow None",
                    "cue 1\tstop", "cue\t1", "Cue 1", "CUE 1", "cue1", "cues 1", "cue 1\r", "cue 1_0", "cue 1e3",
                    "cue 0x1", "cue 1 stopfollow 1", "cue " + "9" * 5000, "cue 1 follow " + "9" * 5000,
                    "cue 1 follow .5", "cue 1 follow 1.", "cue \u0661", "cue \u00b2", "cue 1 follow \u0661",
                    "cue 1\u00a0stop", "cue 1\x0b", "cue 1\x0cstop", "cue 1\x1c", "cue 1\u2028"):
            self.assert_row(0, row, "part 0 0 0")
            self.assert_row(2, "cue 1", "part 0 0 0", row.replace("1", "2", 1), "part 0 0 0")

    def test_part_rows(self):
        for row in ("part", "part ", "part 0", "part 0 0", "part 0 0 ", "part 0 0 0 0", "part 0 0 0 ", " part 0 0 0",
                    "part  0 0 0", "part 0  0 0", "part 0 0  0", "part 00 0 0", "part 0 01 0", "part 0 0 1.0",
                    "part 1.50 0 0", "part 0 .5 0", "part 0 0 1.", "part -1 0 0", "part 0 +1 0", "part 0 0 a",
                    "part 1000000.001 0 0", "part 0 1000001 0", "part 0 0 1.2345", "part 0.0001 0 0", "Part 0 0 0",
                    "parts 0 0 0", "part 0 0 0\r", "part\t0 0 0", "part 0,5 0 0", "part 0 0 0 stop",
                    "part 0 0 " + "1" * 5000, "part None 0 0", "part \u0661 0 0"):
            self.assert_row(1, "cue 1", row)
            self.assert_row(1, "cue 1", row, "on a pan 1")
            self.assert_row(2, "cue 1", "part 0 0 0", row)

    def test_telling_rows(self):
        for word in ("on", "alone"):
            for rest in ("", " ", " a", " a pan", " a pan ", " a pan 1 ", " a pan 1 1", "  a pan 1", " a  pan 1",
                         " a pan  1", " a pan 01", " a pan 00", " a pan -1", " a pan +1", " a pan 1.0", " a pan 1.5",
                         " a pan 1000000001", " a pan 10000000000", " a pan a", " a pan", " pan a 1", " a white 1",
                         " a Pan 1", " A pan 1", " a1 pan 1", " abcdefghi pan 1", "  pan 1", " a  1", " a pan 1_0",
                         " a pan 1\r", "\ta pan 1", " a\tpan 1", " a pan 1\t", " a pan " + "9" * 5000, "s a pan 1",
                         " a pan \u0661", " \u00e9 pan 1", " a pan 0x1", " a pan 1e1", " (a, pan) 1"):
                self.assert_row(2, "cue 1", "part 0 0 0", word + rest)
                self.assert_row(4, "cue 1", "part 0 0 0", "on b pan 1", "alone b pan 1", word + rest, "on c pan 1")
        for row in ("off a pan 1", "On a pan 1", "ALONE a pan 1", "a pan 1", " on a pan 1", "tells a pan 1",
                    "onalone a pan 1", "x", "#", "stop", "follow 1", "a b c d", "  ", "   ", "on on pan 1 alone"):
            self.assert_row(2, "cue 1", "part 0 0 0", row)

    def test_lamps_may_be_called_like_words(self):
        text = text_of("cue 1", "part 0 0 0", "on on pan 1", "on pan pan 1", "alone alone tilt 1", "alone cue red 1")
        self.assertEqual(fault_row(text), None)
        self.assertEqual(len(read(text)[0].parts[0].tells), 2)

    def test_a_slot_with_two_rows_of_one_way(self):
        self.assert_row(3, "cue 1", "part 0 0 0", "on a pan 1", "on a pan 1")
        self.assert_row(3, "cue 1", "part 0 0 0", "alone a pan 1", "alone a pan 2", "on a pan 1")
        self.assert_row(5, "cue 1", "part 0 0 0", "on a pan 0", "alone a pan 0", "on b pan 1", "on a pan 0")

    def test_a_slot_told_by_two_parts(self):
        for one, other in itertools.product(("on", "alone"), repeat=2):
            self.assert_row(4, "cue 1", "part 0 0 0", one + " a pan 1", "part 0 0 0", other + " a pan 1")
            self.assert_row(6, "cue 1", "part 0 0 0", one + " a pan 1", "part 0 0 0", "part 0 0 0", "on a tilt 1",
                            other + " a pan 0", "on a tilt 1")

    def test_a_tenth_part(self):
        self.assert_row(10, "cue 1", *["part 0 0 0"] * 10)
        self.assert_row(10, "cue 1", *["part 0 0 0"] * 12, "cue 1")
        self.assert_row(12, "cue 1", "part 0 0 0", "cue 2", *["part 0 0 0"] * 10)

    def test_line_ends_are_just_one_sign(self):
        text = text_of("cue 1", "part 0 0 0")
        for sign in ("\r\n", "\r", "\x0b", "\x0c", "\x1c", "\x1d", "\x1e", "\x85", "\u2028", "\n\r", "\\n", " "):
            spoilt = text.replace("\n", sign)
            fault = refused(self, NoText, read, spoilt)
            self.assertEqual(fault.row, fault_row(spoilt), repr(sign))

    def test_the_first_fault_is_told(self):
        self.assert_row(2, "cue 1", "part 0 0 0", "x", "cue 1", "y")
        self.assert_row(0, "x", "cue 1")

    def test_refusing_changes_nothing(self):
        thing = ["cue 1"]
        refused(self, NoText, read, thing)
        self.assertEqual(thing, ["cue 1"])
        refused(self, NoText, read, "cue 1")
        self.assertEqual(read(""), [])


class AgainstThePlainForms(unittest.TestCase):
    def assert_as_plainly(self, text):
        row = fault_row(text)
        if row is None:
            self.assertIs(type(read(text)), list)
        else:
            self.assertEqual(refused(self, NoText, read, text).row, row, repr(text))
        return row

    def test_all_texts_of_few_rows(self):
        some = ["cue 1", "cue 2 stop", "cue 2", "part 0 0 0", "on a pan 1", "alone a pan 0", "on b pan 1", "", "cue 0"]
        for count in range(1, 5):
            for rows in itertools.product(some, repeat=count):
                self.assert_as_plainly("\n".join(rows))

    def test_longer_texts_behind_a_cue(self):
        some = ["cue 2", "part 1 0 0", "on a pan 1", "alone a pan 0", "on b pan 1"]
        for rows in itertools.product(some, repeat=5):
            self.assert_as_plainly(text_of("cue 1", "part 0 0 0", *rows))

    def test_spoilt_signs(self):
        chance = random.Random(11)
        faults = 0
        for seed in range(1000):
            text = written(some_list(seed, 3))
            place = chance.randrange(len(text) + 1)
            sign = chance.choice("0019.aoen \n\n-")
            spoilt = chance.choice([text[:place] + sign + text[place:], text[:place] + text[place + 1:],
                                    text[:place] + sign + text[place + 1:], text[:place]])
            faults += self.assert_as_plainly(spoilt) is not None
        self.assertGreater(faults, 500)

    def test_spoilt_rows(self):
        chance = random.Random(12)
        faults = 0
        for seed in range(1000):
            rows = written(some_list(seed, 4)).split("\n")
            place = chance.randrange(len(rows))
            other = chance.randrange(len(rows))
            way = chance.randrange(4)
            if way == 0:
                rows[place], rows[other] = rows[other], rows[place]
            elif way == 1:
                rows.insert(place, rows[other])
            elif way == 2:
                rows.pop(place)
            else:
                rows = rows[:place]
            faults += self.assert_as_plainly("\n".join(rows)) is not None
        self.assertGreater(faults, 300)

    def test_rows_ahead_of_the_fault_can_go_on(self):
        chance = random.Random(13)
        for seed in range(300):
            rows = written(some_list(seed, 4)).split("\n")
            rows.insert(chance.randrange(len(rows) + 1), chance.choice(["x", "cue 1", "on a pan 1", "part 0 0"]))
            row = fault_row("\n".join(rows))
            if row:
                good = rows[:row]
                if good[-1].startswith("cue"):
                    good.append("part 0 0 0")
                read("\n".join(good))


class Wholes(unittest.TestCase):
    def test_read(self):
        for number in list(range(1200)) + [MOST - 1, MOST, 10 ** 12 - 1, 10 ** 12]:
            told = whole_of(str(number), 10 ** 12)
            self.assertEqual(told, number)
            self.assertIs(type(told), int)

    def test_most(self):
        for most in (0, 1, 5, 9, 10, 99, 100, 1000, MOST, 10 ** 12):
            self.assertEqual(whole_of(str(most), most), most)
            self.assertEqual(whole_of("0", most), 0)
            self.assertIsNone(whole_of(str(most + 1), most))
            self.assertIsNone(whole_of(str(most) + "0", most) if most else None)
            for number in range(12):
                self.assertEqual(whole_of(str(number), most), number if number <= most else None)
        self.assertEqual(whole_of(word="7", most=7), 7)
        self.assertEqual(whole_of(str(10 ** 13), 10 ** 13), 10 ** 13)

    def test_no_wholes(self):
        for word in ("", "00", "01", "007", "000", "-1", "-0", "+1", "+0", "1.0", "1.", ".1", "1e3", "1_000", "0x1",
                     "0b1", " 1", "1 ", " ", "1\n", "\n1", "\n", "1 1", "1,0", "a", "1a", "a1", "one", "\u0661",
                     "\u00b2", "\uff11", "1\u0661", "\u00bd", "0" * 5000, "9" * 5000, "1" + "0" * 19000, "\x00",
                     "1\x00"):
            self.assertIsNone(whole_of(word, 10 ** 12), repr(word[:20]))

    def test_of_all_short_words_just_the_written_ones_are_read(self):
        for length in range(5):
            for signs in itertools.product("0129.-+ \na", repeat=length):
                word = "".join(signs)
                number = int(word) if re.fullmatch(r"0|[1-9][0-9]*", word) else None
                self.assertEqual(whole_of(word, 10 ** 12), number, repr(word))

    def test_what_is_no_text_writes_no_number(self):
        for thing in ODD + TUPLES + LISTS + DICTS + NUMBERS + WRONG_NUMBERS + [["1"], ("1",), {"1": 1}]:
            self.assertIsNone(whole_of(thing, 10 ** 12))


class ThePlainForms(unittest.TestCase):
    """What the reader is held against has to be right itself."""

    def test_lists(self):
        for seed in range(100):
            self.assertIsNone(fault_row(written(some_list(seed))))

    def test_rows(self):
        for row, text in ((0, "\n"), (1, "cue 1"), (1, "cue 1\ncue 2"), (2, "cue 1\npart 0 0 0\n"), (0, "x"),
                          (2, "cue 2\npart 0 0 0\ncue 1\npart 0 0 0"), (10, "cue 1" + "\npart 0 0 0" * 10)):
            self.assertEqual(fault_row(text), row)


if __name__ == "__main__":
    unittest.main()
