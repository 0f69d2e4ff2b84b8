import itertools
import re
import unittest
from fractions import Fraction

from lampcues.errors import NoText, NoTime
from lampcues.times import is_time, time_of, time_text

MOST = 10 ** 9

WRITTEN = (
    (0, "0"), (1, "0.001"), (9, "0.009"), (10, "0.01"), (11, "0.011"), (20, "0.02"), (99, "0.099"),
    (100, "0.1"), (101, "0.101"), (110, "0.11"), (500, "0.5"), (999, "0.999"),
    (1000, "1"), (1001, "1.001"), (1010, "1.01"), (1100, "1.1"), (1250, "1.25"), (1999, "1.999"),
    (3000, "3"), (9999, "9.999"), (10000, "10"), (10010, "10.01"), (60000, "60"), (100000, "100"),
    (100100, "100.1"), (123456789, "123456.789"), (100000000, "100000"), (999999000, "999999"),
    (MOST - 1000, "999999"), (MOST - 100, "999999.9"), (MOST - 1, "999999.999"), (MOST, "1000000"),
)

NO_TIMES = (
    -1, MOST + 1, -MOST, 2 * MOST, 10 ** 10, 10 ** 30, -10 ** 30, 10 ** 5000, -10 ** 5000,
    True, False, None, "", "0", "1000", "3", b"1", [], [1], [1000], (), (5,), {}, {1: 1}, set(),
    1.0, 0.0, 1000.0, 2.5, float("inf"), float("nan"), 1j, int, object(),
)

NO_TEXTS = (
    # noughts ahead
    "00", "01", "007", "00.5", "01.5", "0000001", "01000000",
    # noughts at the end behind the point
    "1.0", "1.00", "1.000", "0.0", "0.000", "1.50", "1.500", "0.10", "0.120", "1000000.0", "1000000.000",
    # four places and more
    "0.1234", "1.2345", "0.0001", "0.1230", "1.25000", "0.00000000000001", "0.1000000001",
    # a point with nothing ahead or behind, or more than one
    ".", "1.", "0.", ".5", ".0", "1..5", "1.2.3", "..", "1.5.", "1,5",
    # signs and other ways to write numbers
    "+1", "-1", "-0", "+0", "--1", "1-", "1.-5", "1.+5", "1_000", "1e3", "1E3",
    "0x10", "1/2", "1.5s", "a", "nan", "inf",
    # the text without signs
    "",
    # more than 10 ** 9 ticks
    "1000000.001", "1000000.1", "1000001", "2000000", "9999999", "9999999.999", "10000000", "99999999999",
    "1" * 30, "9" * 5000, "1" + "0" * 19000, "0." + "1" * 5000, "0" * 5000, "9" * 5000 + ".5",
    # signs beyond ASCII
    "\u0661", "\u00b2", "1.\u0662", "\uff11", "1\u00a0", "\u22121",
)

BLANKS = (" ", "\t", "\n", "\r", "\r\n", "\x0b", "\x0c", "\x00")

NOT_TEXTS = (
    None, True, False, 0, 1, 1250, -1, 1.5, 10 ** 5000, b"1", b"", bytearray(b"1"), [], ["1"], ["1", "2"], ("1",),
    {}, {"1": 1}, object(), str,
)


class Asking(unittest.TestCase):
    def test_times(self):
        for ticks in (0, 1, 2, 999, 1000, 1250, 123456789, MOST - 1, MOST):
            self.assertIs(is_time(ticks), True, ticks)

    def test_no_times(self):
        for place, thing in enumerate(NO_TIMES):
            self.assertIs(is_time(thing), False, place)

    def test_asking_changes_nothing(self):
        things = [1, [2]]
        is_time(things)
        self.assertEqual(things, [1, [2]])


class Writing(unittest.TestCase):
    def test_written(self):
        for ticks, text in WRITTEN:
            self.assertEqual(time_text(ticks), text)

    def test_all_places_of_some_seconds(self):
        for seconds in (0, 1, 9, 10, 305, 999999):
            for rest in range(1000):
                text = str(seconds)
                if rest:
                    text += ("." + "%03d" % rest).rstrip("0")
                self.assertEqual(time_text(seconds * 1000 + rest), text)

    def test_no_time_is_refused(self):
        for place, thing in enumerate(NO_TIMES):
            with self.assertRaises(NoTime, msg=place):
                time_text(thing)


class Reading(unittest.TestCase):
    def assert_no_text(self, thing, place):
        with self.assertRaises(NoText, msg=place) as taken:
            time_of(thing)
        self.assertEqual(taken.exception.row, 0)

    def test_read(self):
        for ticks, text in WRITTEN:
            read = time_of(text)
            self.assertEqual(read, ticks)
            self.assertIs(type(read), int)

    def test_what_is_written_is_read(self):
        for ticks in list(range(0, 12000)) + list(range(MOST - 3000, MOST + 1)) + list(range(0, MOST, 777777)):
            self.assertEqual(time_of(time_text(ticks)), ticks)

    def test_all_else_is_refused(self):
        for text in NO_TEXTS:
            self.assert_no_text(text, text[:40])

    def test_blanks_at_any_place_are_refused(self):
        for text in ("0", "3", "12", "1.25", "0.02", "1000000"):
            for blank in BLANKS:
                for place in range(len(text) + 1):
                    spoilt = text[:place] + blank + text[place:]
                    self.assert_no_text(spoilt, repr(spoilt))
                    if place < len(text):
                        spoilt = text[:place] + blank + text[place + 1:]
                        self.assert_no_text(spoilt, repr(spoilt))
        for blank in BLANKS:
            self.assert_no_text(blank, repr(blank))

    def test_of_all_short_texts_just_the_written_ones_are_read(self):
        form = re.compile(r"(0|[1-9][0-9]*)(\.[0-9]{0,2}[1-9])?")
        for length in range(6):
            for signs in itertools.product("0129.-+ \n", repeat=length):
                text = "".join(signs)
                if form.fullmatch(text):
                    self.assertEqual(time_of(text), Fraction(text) * 1000, text)
                else:
                    self.assert_no_text(text, repr(text))

    def test_what_is_no_text_is_refused(self):
        for place, thing in enumerate(NOT_TEXTS):
            self.assert_no_text(thing, place)

    def test_refusing_changes_nothing(self):
        things = ["1"]
        self.assert_no_text(things, "a list")
        self.assertEqual(things, ["1"])
        self.assertEqual(time_of("1"), 1000)


if __name__ == "__main__":
    unittest.main()
