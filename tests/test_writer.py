import inspect
import itertools
import unittest

from helper import MOST, SIDES, cue, no_lists, plain, refused, some_list
from lampcues.cues import Cue, Part
from lampcues.errors import NoList
from lampcues.writer import written

PAN = ("spot", "pan")


def told(part):
    return written([Cue(1, [part])]).split("\n")[1:]


class Written(unittest.TestCase):
    def test_a_whole_list(self):
        cues = [
            Cue(1, [Part({PAN: 5, ("spot", "bright"): 1000}, {("wash", "red"): 0, PAN: 7}, 1250, 20, 0)]),
            Cue(10, [Part({}, {}), Part({("a", "tilt"): MOST}, {}, 3000, MOST, 1)], True, 1500),
            Cue(11, [Part({}, {("a", "blue"): 1})], True),
            Cue(MOST, [Part({}, {})], False, 0),
        ]
        self.assertEqual(written(cues), "\n".join([
            "cue 1", "part 1.25 0.02 0", "on spot bright 1000", "on spot pan 5", "alone spot pan 7", "alone wash red 0",
            "cue 10 stop follow 1.5", "part 0 0 0", "part 3 1000000 0.001", "on a tilt 1000000000",
            "cue 11 stop", "part 0 0 0", "alone a blue 1",
            "cue 1000000000 follow 0", "part 0 0 0",
        ]))

    def test_the_list_without_cues(self):
        self.assertEqual(written([]), "")

    def test_the_least_list(self):
        self.assertEqual(written([cue(7)]), "cue 7\npart 0 0 0")

    def test_cue_rows(self):
        for stops, follow, row in ((False, None, "cue 3"), (True, None, "cue 3 stop"), (False, 0, "cue 3 follow 0"),
                                   (True, 0, "cue 3 stop follow 0"), (False, MOST, "cue 3 follow 1000000"),
                                   (True, 1, "cue 3 stop follow 0.001")):
            self.assertEqual(written([Cue(3, [Part({}, {})], stops, follow)]), row + "\npart 0 0 0")

    def test_times_stand_in_their_order(self):
        self.assertEqual(told(Part({}, {}, 1000, 2000, 3000)), ["part 1 2 3"])
        self.assertEqual(told(Part({}, {}, 1, 10, 100)), ["part 0.001 0.01 0.1"])

    def test_slots_stand_in_their_order_whatever_the_keys_order(self):
        slots = [("a", "tilt"), ("aa", "blue"), ("ab", "blue"), ("b", "bright")]
        for keys in itertools.permutations(slots):
            rows = told(Part({slot: 1 for slot in keys}, {slot: 2 for slot in keys}))[1:]
            self.assertEqual(rows, ["on a tilt 1", "on aa blue 1", "on ab blue 1", "on b bright 1",
                                    "alone a tilt 2", "alone aa blue 2", "alone ab blue 2", "alone b bright 2"])

    def test_sides_stand_in_their_order(self):
        rows = told(Part({("a", side): 1 for side in reversed(SIDES)}, {}))[1:]
        self.assertEqual(rows, ["on a " + side + " 1" for side in SIDES])

    def test_order_of_tuples_is_not_that_of_rows(self):
        # As one text "ab blue" would go by the signs of both words; as tuples the shorter lamp goes first.
        rows = told(Part({("ab", "blue"): 1, ("a", "tilt"): 1, ("abc", "blue"): 1}, {}))[1:]
        self.assertEqual(rows, ["on a tilt 1", "on ab blue 1", "on abc blue 1"])

    def test_all_on_rows_stand_ahead_of_the_alone_rows(self):
        rows = told(Part({("z", "tilt"): 1}, {("a", "blue"): 1}))[1:]
        self.assertEqual(rows, ["on z tilt 1", "alone a blue 1"])

    def test_worths_are_not_what_orders(self):
        rows = told(Part({("b", "pan"): 1, ("a", "pan"): 2, ("c", "pan"): 0}, {}))[1:]
        self.assertEqual(rows, ["on a pan 2", "on b pan 1", "on c pan 0"])

    def test_parts_stand_in_their_order(self):
        parts = [Part({("c", "pan"): 1}, {}, 3), Part({("a", "pan"): 1}, {}, 1), Part({("b", "pan"): 1}, {}, 2)]
        self.assertEqual(written([Cue(1, parts)]).split("\n")[1:],
                         ["part 0.003 0 0", "on c pan 1", "part 0.001 0 0", "on a pan 1", "part 0.002 0 0",
                          "on b pan 1"])

    def test_no_sign_too_much(self):
        for seed in range(100):
            text = written(some_list(seed))
            self.assertIs(type(text), str)
            self.assertEqual(text, text.strip())
            for row in text.split("\n"):
                self.assertEqual(row, " ".join(row.split()))


class Asked(unittest.TestCase):
    def test_argument(self):
        self.assertEqual(list(inspect.signature(written).parameters), ["cues"])
        self.assertEqual(written(cues=[cue(2)]), "cue 2\npart 0 0 0")

    def test_no_lists_are_refused(self):
        for thing in no_lists():
            refused(self, NoList, written, thing)

    def test_what_is_handed_in_stays(self):
        for seed in range(40):
            cues = some_list(seed)
            handed = list(cues)
            before = plain(cues)
            written(cues)
            self.assertEqual(cues, handed)
            self.assertEqual(plain(cues), before)
            for one, row in zip(cues, before):
                # The order of a dict's keys stays too: nothing at all is changed.
                self.assertEqual([list(part.tells) for part in one.parts], [list(part[0]) for part in row[1]])

    def test_asked_again_it_is_the_same(self):
        for seed in range(20):
            self.assertEqual(written(some_list(seed)), written(some_list(seed)))


if __name__ == "__main__":
    unittest.main()
