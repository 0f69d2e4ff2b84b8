"""[3], the promise over the whole program, sentence by sentence, for drawn lists, deeds and rows."""

import random
import unittest
from fractions import Fraction

from helper import (LAMPS, SLOTS, PlainDesk, PlainTelling, least_weight, plain, plain_looks, plainly_shown, refused,
                    short_list, slots_of, some_cue, some_deeds, some_hands, some_list, tells_on, woven)
from lampcues.changes import put_in, stopped, taken_out, told_alone, told_on, untold
from lampcues.dark import marks, moved_dark, wishes
from lampcues.desk import Desk
from lampcues.errors import MovesBright, NoCue
from lampcues.fewest import fewest, weight
from lampcues.looks import above, shown
from lampcues.reader import read
from lampcues.reaching import differences
from lampcues.running import Run
from lampcues.telling import told
from lampcues.writer import written
from test_dark import least_marks, moves_seen, plain_wishes, some_stages

WORDS = {"list": "change"}


def do(run, deed):
    """Does the deed to a run; where it would do nothing, it is refused, and no deed taken."""
    try:
        getattr(run, WORDS.get(deed[1], deed[1]))(deed[0], *deed[2:])
    except NoCue:
        return


def gone(cues, deeds):
    """A run that was done these to, and the list that it has then."""
    run = Run(cues)
    for deed in deeds:
        do(run, deed)
        cues = deed[2] if deed[1] == "list" else cues
    return run, cues


def some_moment(chance, first, ticks):
    bottom = chance.choice((1, 1, 2, 3, 10))
    return chance.randrange(first * bottom, (first + ticks) * bottom), bottom


class AtEveryMoment(unittest.TestCase):
    """Each slot stands where the plain telling puts it, which goes from the beginning through all deeds again."""

    def test_runs_whatever_was_gone_through_and_asked_between(self):
        for seed in range(150):
            chance = random.Random(seed + 80000)
            cues = short_list(seed)
            deeds = some_deeds(seed + 81000, cues)
            telling = PlainTelling(cues, deeds, deeds[-1][0] + 100)
            run = Run(cues)
            for place, deed in enumerate(deeds):
                do(run, deed)
                done = deeds[:place + 1]
                for count in range(chance.randrange(3)):
                    top, bottom = some_moment(chance, deed[0], 60)
                    self.assertEqual(run.at(top, bottom), told(cues, done, top, bottom))
                    run.number_at(top, bottom)
                    run.is_still(top, bottom)
            for count in range(5):
                top, bottom = some_moment(chance, deeds[-1][0], 100)
                look = telling.look(Fraction(top, bottom))
                self.assertEqual(run.at(top, bottom), look, (plain(cues), deeds, top, bottom))
                self.assertEqual(told(cues, deeds, top, bottom), look)
                self.assertEqual(run.number_at(top, bottom), telling.state(Fraction(top, bottom))[2])

    def test_desks_too(self):
        for seed in range(100):
            chance = random.Random(seed + 82000)
            cues = short_list(seed)
            deeds = [deed for deed in some_deeds(seed + 83000, cues)
                     if deed[1] != "list" and (deed[1] != "goto" or 0 < deed[2] <= 10 ** 9)]
            desk = Desk(written(cues))
            for deed in deeds:
                desk.hear("anna " + " ".join(str(word) for word in deed))
                desk.picture(*some_moment(chance, 0, 200))
            for count in range(8):
                top, bottom = some_moment(chance, 0, 200)
                self.assertEqual(desk.picture(top, bottom), told(cues, deeds, top, bottom))


class OnceAllIsStill(unittest.TestCase):
    """It stands where its cue shows it, by the list alone."""

    def test_by_the_list_alone(self):
        counts = [0, 0]
        for seed in range(400):
            chance = random.Random(seed + 84000)
            deeds = some_deeds(seed + 85000, short_list(seed), 12)
            run, cues = gone(short_list(seed), deeds)
            for count in range(4):
                top, bottom = some_moment(chance, deeds[-1][0], 2200)
                counts[run.is_still(top, bottom)] += 1
                if run.is_still(top, bottom):
                    number = run.number_at(top, bottom)
                    look = {slot: plainly_shown(cues, number, slot) for slot in slots_of(cues)}
                    look = {slot: worth for slot, worth in look.items() if worth > 0}
                    self.assertEqual(run.at(top, bottom), look)
                    self.assertEqual(run.at(top + 10 ** 9, bottom), look)
                    self.assertTrue(run.is_still(top + 10 ** 9, bottom))
        self.assertGreater(min(counts), 150)


class ChangesOfTheList(unittest.TestCase):
    """What later cues show is changed just as far as the next cue that tells that slot on, or stops."""

    def some_change(self, chance, cues, number):
        slot = chance.choice(slots_of(cues))
        worth = chance.choice((0, 1, 500, 12345))
        free = chance.choice([one for one in range(1, 30) if one not in [cue.number for cue in cues]])
        return chance.choice((
            (number, told_on(cues, number, slot, worth)), (number, untold(cues, number, slot)),
            (number, stopped(cues, number, chance.choice((True, False)))), (number, taken_out(cues, number)),
            (number, taken_out(cues, number, True)),
            (free, put_in(cues, some_cue(chance, free, slots_of(cues), (0, 5), (None, 3))))))

    def test_of_all_sorts(self):
        changed = 0
        for seed in range(600):
            chance = random.Random(seed + 86000)
            cues = some_list(seed)
            for one in cues:
                number, new = self.some_change(chance, cues, one.number)
                for at, slot, before, behind in differences(cues, new):
                    between = [other for other in new if number < other.number <= at]
                    self.assertGreaterEqual(at, number)
                    self.assertFalse(any(other.stops or tells_on(other, slot) for other in between))
                    changed += at > number
        self.assertGreater(changed, 500)

    def test_just_so_far(self):
        for seed in range(300):
            chance = random.Random(seed + 87000)
            cues = some_list(seed)
            for one in cues:
                slot = chance.choice(slots_of(cues))
                new = told_on(cues, one.number, slot, 12345)
                for other in cues:
                    between = [some for some in cues if one.number < some.number <= other.number]
                    reached = other.number >= one.number and not any(
                        some.stops or tells_on(some, slot) for some in between)
                    alone = any(slot in part.alone for part in other.parts)
                    self.assertEqual(plainly_shown(new, other.number, slot) == 12345, reached and not alone)

    def test_what_is_told_alone_changes_nothing_behind_its_cue(self):
        for seed in range(300):
            chance = random.Random(seed + 88000)
            cues = some_list(seed)
            for one in cues:
                slot = chance.choice(slots_of(cues))
                new = told_alone(cues, one.number, slot, chance.choice((0, 12345)))
                self.assertEqual({row[:2] for row in differences(cues, new)} - {(one.number, slot)}, set())
                for number in list(range(one.number + 1, 30)):
                    self.assertEqual(shown(new, number), shown(cues, number))


class BackBehindAGo(unittest.TestCase):
    """It comes to the cue from which the go went, or to 0."""

    def test_back_behind_a_go(self):
        counts = [0, 0]
        for seed in range(500):
            chance = random.Random(seed + 89000)
            deeds = some_deeds(seed + 90000, short_list(seed), chance.randrange(1, 12))
            run, cues = gone(short_list(seed), deeds)
            tick = deeds[-1][0] + chance.choice((0, 1, 50))
            stands = run.number_at(tick)
            to = above(cues, stands)
            if to == 0 or (stands > 0 and all(one.number != stands for one in cues)):
                continue
            follows = run.go(tick) != to
            for place in range(chance.randrange(3)):
                tick += chance.choice((0, 1, 7))
                getattr(run, chance.choice(("stop", "on")))(tick)
            tick += chance.choice((0, 1, 30))
            if not follows and run.number_at(tick) == to:
                counts[stands > 0] += 1
                self.assertEqual(run.back(tick), stands)
                self.assertEqual(run.number_at(tick), stands)
        self.assertGreater(min(counts), 40)

    def test_at_desks(self):
        desk = Desk("cue 2\npart 0 0 0\ncue 9\npart 0 0 0\ncue 10\npart 0 0 0")
        for tick in range(0, 60, 2):
            stands = desk.number_at(tick)
            desk.hear("a " + str(tick) + " go")
            if desk.number_at(tick) > stands:
                desk.hear("a " + str(tick + 1) + " back")
                self.assertEqual(desk.number_at(tick + 1), stands)
                desk.hear("a " + str(tick + 1) + " go")
        self.assertEqual(desk.number_at(60), 10)


class FewestTellings(unittest.TestCase):
    """They show the same, and no list of the same numbers that shows the same has fewer."""

    def test_the_same_and_no_fewer(self):
        for seed in range(1000, 1250):
            cues = some_list(seed, 6)
            few = fewest(cues)
            self.assertEqual([one.number for one in few], [one.number for one in cues])
            self.assertEqual(differences(cues, few), [])
            self.assertEqual(plain_looks(few), plain_looks(cues))
            self.assertEqual(weight(few), least_weight(plain_looks(cues)))
            for number in range(30):
                if number in [one.number for one in cues]:
                    self.assertEqual(shown(few, number), shown(cues, number))

    def test_gone_through_they_come_to_the_same(self):
        for seed in range(100):
            cues = short_list(seed)
            run, other = Run(cues), Run(fewest(cues))
            for place in range(len(cues)):
                tick = place * 10000
                if above(cues, run.number_at(tick)):
                    self.assertEqual(run.go(tick), other.go(tick))
                    self.assertEqual(run.at(tick + 9999), other.at(tick + 9999))

    def test_as_texts(self):
        for seed in range(100):
            cues = some_list(seed)
            self.assertEqual(differences(read(written(fewest(cues))), cues), [])


class MovedDark(unittest.TestCase):
    """The marks are as few as can be, and no lamp moves while it is bright; else it is refused with the lamp."""

    def test_marks_moves_and_refusals(self):
        counts = [0, 0]
        for seed in range(1000, 1200):
            chance = random.Random(seed)
            cues = some_stages(seed)
            lamps = chance.sample(LAMPS, chance.randrange(1, 4))
            some, refusal = plain_wishes(cues, lamps)
            counts[refusal is None] += 1
            if refusal is None:
                self.assertEqual(len(marks(wishes(cues, lamps))[0]), least_marks(some))
                made = moved_dark(cues, lamps)
                self.assertEqual(moves_seen(made, lamps, chance, 1), [])
                bright = [slot for slot in SLOTS if slot[0] not in lamps or slot[1] == "bright"]
                for one in cues:
                    for slot in bright:
                        self.assertEqual(plainly_shown(made, one.number, slot), plainly_shown(cues, one.number, slot))
            else:
                self.assertIn(refused(self, MovesBright, moved_dark, cues, lamps).lamp, lamps)
        self.assertGreater(min(counts), 15)


class TwoDesks(unittest.TestCase):
    """That hear the same deeds, in any weaving of the hands, show one picture at each moment."""

    def test_one_picture(self):
        unlike = 0
        for seed in range(150):
            chance = random.Random(seed + 91000)
            cues = short_list(seed, 4)
            hands = some_hands(chance, chance.randrange(2, 5), 8)
            ways = [woven(chance, hands), woven(chance, hands)]
            unlike += ways[0] != ways[1]
            desks = [Desk(written(cues)), Desk(written(cues))]
            plainly = PlainDesk(cues)
            for row in ways[1]:
                plainly.hear(row)
            for desk, way in zip(desks, ways):
                for row in way:
                    desk.hear(row)
                    if chance.randrange(3) == 0:
                        desk.picture(*some_moment(chance, 0, 150))
            self.assertEqual(desks[0].rows(), desks[1].rows())
            for top in range(0, 300, 7):
                for ask in ("picture", "number_at", "list_at"):
                    self.assertEqual(getattr(desks[0], ask)(top, 2), getattr(desks[1], ask)(top, 2))
            top, bottom = some_moment(chance, 0, 150)
            self.assertEqual(desks[0].picture(top, bottom), plainly.at(Fraction(top, bottom))[0])
        self.assertGreater(unlike, 100)


if __name__ == "__main__":
    unittest.main()
