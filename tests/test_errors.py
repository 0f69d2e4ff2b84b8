import unittest

from lampcues import errors
from lampcues.errors import LampError, MovesBright, NoText

PLAIN = ("NoTime", "NoSlot", "NoWorth", "NoPart", "NoCue", "NoList", "Late", "NoName", "NoRow")


def refusals():
    return [getattr(errors, name) for name in PLAIN + ("NoText", "MovesBright")]


class Kinship(unittest.TestCase):
    def test_any_refusal_is_a_value_error(self):
        self.assertTrue(issubclass(LampError, ValueError))

    def test_each_stands_straight_under_lamp_error(self):
        for kind in refusals():
            self.assertEqual(kind.__bases__, (LampError,), kind)

    def test_none_stands_under_another(self):
        for kind in refusals():
            for other in refusals():
                self.assertEqual(issubclass(kind, other), kind is other, (kind, other))

    def test_lamp_error_is_none_of_them(self):
        for kind in refusals():
            self.assertFalse(issubclass(LampError, kind), kind)


class Making(unittest.TestCase):
    def test_plain_ones_are_made_of_words(self):
        for name in PLAIN + ("LampError",):
            made = getattr(errors, name)("some words")
            self.assertIsInstance(made, LampError)
            self.assertEqual(str(made), "some words")

    def test_row_of_no_text(self):
        self.assertEqual(NoText("some words").row, 0)
        self.assertEqual(NoText("some words", 7).row, 7)
        self.assertEqual(NoText("some words", row=12).row, 12)
        self.assertEqual(NoText(words="some words", row=3).row, 3)
        self.assertEqual(str(NoText("some words", 7)), "some words")

    def test_row_is_each_object_s_own(self):
        one = NoText("one", 4)
        other = NoText("other")
        self.assertEqual((one.row, other.row), (4, 0))

    def test_fields_of_moves_bright(self):
        made = MovesBright("some words", "spot", 30)
        self.assertEqual((made.lamp, made.number), ("spot", 30))
        made = MovesBright(words="some words", lamp="wash", number=1)
        self.assertEqual((made.lamp, made.number), ("wash", 1))
        self.assertEqual(str(made), "some words")

    def test_moves_bright_needs_both_fields(self):
        with self.assertRaises(TypeError):
            MovesBright("some words")
        with self.assertRaises(TypeError):
            MovesBright("some words", "spot")

    def test_fields_come_along_as_it_is_taken(self):
        try:
            raise MovesBright("some words", "spot", 30)
        except LampError as taken:
            self.assertEqual((taken.lamp, taken.number), ("spot", 30))
        try:
            raise NoText("some words", 5)
        except ValueError as taken:
            self.assertEqual(taken.row, 5)


if __name__ == "__main__":
    unittest.main()
