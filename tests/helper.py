"""What several tests need: odd things, refusals, lists of cues and deeds of all sorts, and the promises told again.

What is told again here is told as plainly as can be, and shares nothing with the program but parts and cues.
"""

import inspect
import random
from collections import OrderedDict, UserDict, UserList, UserString, defaultdict
from decimal import Decimal
from fractions import Fraction

from lampcues import errors
from lampcues.cues import Cue, Part
from lampcues.errors import LampError

MOST = 10 ** 9
SIDES = ("blue", "bright", "green", "pan", "red", "tilt")
REFUSALS = [errors.NoText, errors.NoTime, errors.NoSlot, errors.NoWorth, errors.NoPart, errors.NoCue, errors.NoList,
            errors.Late, errors.NoName, errors.MovesBright, errors.NoRow]


class Sulky:
    """Fails at whatever is asked of it, but for its kind."""

    def sulk(self, *some):
        raise RuntimeError("asked of what it can't tell")

    __eq__ = __ne__ = __lt__ = __le__ = __gt__ = __ge__ = __hash__ = __bool__ = __len__ = __iter__ = sulk
    __contains__ = __getitem__ = __int__ = __index__ = __str__ = __repr__ = __add__ = __radd__ = sulk


class SulkyKey(Sulky):
    """May be a key of a dict, but is held against none."""

    def __hash__(self):
        return 7


class NumberLike:
    """Looks like a whole number, and is none."""

    def __index__(self):
        return 1

    def __int__(self):
        return 1

    def __eq__(self, other):
        return True

    def __hash__(self):
        return 1

    def __le__(self, other):
        return True

    __lt__ = __ge__ = __gt__ = __le__


# Things that nothing takes, of kinds that the program has no use for.
ODD = [
    None, True, False, 1.0, 0.0, 2.5, float("nan"), float("inf"), 1j, Decimal(1), Fraction(1), b"", b"spot",
    bytearray(b"a"), set(), frozenset(), {("spot", "pan")}, range(3), iter([]), slice(1), NotImplemented, ...,
    object(), object, int, str, dict, len, Sulky(), SulkyKey(), NumberLike(), Cue, Part, LampError("x"),
    memoryview(b"a"), UserDict(), UserList(), UserString("spot"), (one for one in []),
]
TEXTS = ["", "a", "0", "1", "spot", "bright", "cue 1", "1000"]
TUPLES = [(), (1,), ("spot",), ("spot", "pan", "pan"), (Part({}, {}),), (Cue(1, [Part({}, {})]),), (None, None)]
LISTS = [[], [1], ["spot", "pan"], [Part({}, {})], [Cue(1, [Part({}, {})])], [None], [[]]]
DICTS = [{}, {1: 1}, {("spot", "pan"): 1}, {"spot": {}}, OrderedDict(), defaultdict(int)]
NUMBERS = [0, 1, 5, MOST]
WRONG_NUMBERS = [-1, -2, -MOST, -10 ** 40, -10 ** 5000]
NO_LAMPS = ["", "abcdefghi", "spotspotspot", "A", "Spot", "spoT", "spot1", "1", "a b", " a", "a ", "a\n", "\n", "\ta",
            "a_b", "a-b", "a.b", "`", "{", "@", "[", "\x00", "a\x00", "\u00e9", "\u00df", "\u0430", "\uff41", "\u00aa"]
NO_SIDES = ["", "Pan", "PAN", "pa", "pann", "pan ", " pan", "pan\n", "bright1", "white", "spot", "bluebright", "x"]
NO_SLOTS = (
    [("spot", side) for side in NO_SIDES] + [(lamp, "pan") for lamp in NO_LAMPS]
    + [(thing, "pan") for thing in ODD + TUPLES + LISTS + DICTS + NUMBERS]
    + [("spot", thing) for thing in ODD + TUPLES + LISTS + DICTS + NUMBERS]
    + [["spot", "pan"], ("pan", "spot"), ("spot", "pan", "pan"), ("spot", "pan", 1), ("spot",), (), "spot pan", "sp",
       ("spot", ("pan",)), (("spot",), "pan"), (("spot", "pan"),), {"spot": "pan"}]
    + ODD + TUPLES + LISTS + DICTS + TEXTS + NUMBERS + WRONG_NUMBERS)
NO_WORTHS = [-1, MOST + 1, 10 ** 10, 10 ** 5000] + WRONG_NUMBERS + ODD + TUPLES + LISTS + DICTS + TEXTS
NO_NAMES = NO_LAMPS + ODD + TUPLES + LISTS + DICTS + NUMBERS + WRONG_NUMBERS + [("a",), ["a"], {"a": 1}]
NO_LEVELS = [1001, 1002, 5000, MOST] + NO_WORTHS
TIMES = (0, 0, 1, 20, 300, 1000, 1250, 60000, MOST)
FOLLOWS = (None, None, 0, 1, 1500, MOST)
# Short enough to be told tick by tick.
SHORT_TIMES = (0, 0, 1, 2, 3, 7, 20, 45)
SHORT_FOLLOWS = (None, None, None, 0, 0, 1, 2, 5, 16, 40)


def can_be_key(thing):
    try:
        hash(thing)
    except (TypeError, RuntimeError, ValueError):
        return False
    return True


def cue(number):
    return Cue(number, [Part({}, {})])


def on(number, tells, rise=0, fall=0, wait=0, follow=None):
    return Cue(number, [Part(tells, {}, rise, fall, wait)], False, follow)


def no_lists():
    """Whatever is no list of cues with rising numbers."""
    one = cue(1)
    things = [thing for thing in LISTS if thing and not isinstance(thing[0], Cue)]
    things += [(one,), one, {one: 1}, {1: one}, [one, None], [None, one], [one, [one]], [[one]], [one, (one,)],
               [one, one], [one, cue(1)], [cue(2), one], [one, cue(3), cue(2)], [one, cue(3), cue(3)],
               [cue(2), cue(3), one], [cue(MOST), cue(MOST - 1)], [cue(9), cue(10), cue(10), cue(11)], iter([one])]
    things += [[thing] for thing in ODD + TUPLES + LISTS + DICTS + TEXTS + NUMBERS]
    things += [[one, thing] for thing in ODD + TUPLES + LISTS + DICTS + TEXTS + NUMBERS]
    return things + ODD + TUPLES + DICTS + TEXTS + NUMBERS + WRONG_NUMBERS


def refused(test, kind, call, *given, **named):
    """The refusal that the call makes: of just this class."""
    try:
        call(*given, **named)
    except LampError as fault:
        test.assertIs(type(fault), kind)
        test.assertIsInstance(fault, ValueError)
        test.assertEqual([one for one in REFUSALS if isinstance(fault, one)], [kind])
        return fault
    test.fail("not refused with " + kind.__name__)


def arguments_of(call):
    """The names of what it takes, in order, and what is taken where one is left out."""
    spec = inspect.signature(call).parameters.values()
    return [one.name if one.default is inspect.Parameter.empty else (one.name, one.default) for one in spec]


def some_part(chance, slots, spans):
    tells = {}
    alone = {}
    for slot in slots:
        way = chance.randrange(4)
        if way in (0, 2):
            tells[slot] = chance.choice((0, 0, 1, 2, 500, MOST))
        if way in (1, 2):
            alone[slot] = chance.choice((0, 0, 1, 3, 700, MOST))
    times = [chance.choice(spans) for place in range(3)]
    return Part(tells, alone, *times)


def some_cue(chance, number, slots, spans, follows):
    drawn = chance.sample(slots, chance.randrange(len(slots) + 1))
    parts = []
    count = chance.choice((1, 1, 1, 2, 3, 9))
    for place in range(count):
        parts.append(some_part(chance, drawn[place::count], spans))
    follow = chance.choice(follows)
    return Cue(number, parts, chance.randrange(4) == 0, follow)


def some_list(seed, most=8, spans=TIMES, follows=FOLLOWS):
    """A list of cues, the same one for the same seed."""
    chance = random.Random(seed)
    slots = [(lamp, side) for lamp in ("a", "spot", "wash") for side in ("bright", "pan")]
    numbers = sorted(chance.sample(range(1, 25), chance.randrange(most + 1)))
    if numbers and chance.randrange(5) == 0:
        numbers[-1] = MOST
    return [some_cue(chance, number, slots, spans, follows) for number in numbers]


def plain(cues):
    """All that a list tells, in dicts and tuples of its own."""
    rows = []
    for cue in cues:
        parts = [(dict(part.tells), dict(part.alone), part.rise, part.fall, part.wait) for part in cue.parts]
        rows.append((cue.number, parts, cue.stops, cue.follow))
    return rows


def evenly(start, end, length, moment):
    """Where [6] puts a thing, by fractions."""
    if moment < 0:
        return start
    if moment >= length:
        return end
    steps = int(abs(end - start) * moment / length)
    return start + steps if end > start else start - steps


class PlainCourse:
    """All that [7] says, told again from the first fade at each question."""

    def __init__(self, first):
        self.first = first
        self.heard = []

    def tell(self, now, wait, rise, fall, end):
        self.heard.append((now, wait, rise, fall, end))

    def left(self):
        left = []
        for now, wait, rise, fall, end in self.heard:
            out = now + wait
            left = [fade for fade in left if fade[0] < out]
            start = self.by(left, Fraction(out))
            left.append((out, start, end, rise if end > start else fall))
        return left

    def by(self, left, moment):
        step = self.first
        for out, start, end, length in left:
            if out <= moment:
                step = evenly(start, end, length, moment - out)
        return step

    def at(self, moment):
        return self.by(self.left(), moment)

    def aim(self):
        return self.heard[-1][4] if self.heard else self.first

    def still(self):
        if not self.heard:
            return 0
        last = self.left()[-1]
        return last[0] + last[3]


def tells_on(one, slot):
    """The worths that a cue's parts tell this slot on at: one or none."""
    return [part.tells[slot] for part in one.parts if slot in part.tells]


def plainly_carried(cues, number, slot):
    """[10] gone through backwards: the last cue that tells the slot on or stops settles it."""
    for one in reversed(cues):
        if one.number <= number:
            told = tells_on(one, slot)
            if told:
                return told[0]
            if one.stops:
                return 0
    return 0


def plainly_shown(cues, number, slot):
    for one in cues:
        if one.number == number:
            for part in one.parts:
                if slot in part.alone:
                    return part.alone[slot]
    return plainly_carried(cues, number, slot)


def slots_of(cues):
    slots = {("spot", "pan"), ("never", "tilt")}
    for one in cues:
        for part in one.parts:
            slots |= set(part.tells) | set(part.alone)
    return sorted(slots)


def short_list(seed, most=8):
    return some_list(seed, most, SHORT_TIMES, SHORT_FOLLOWS)


def some_deeds(seed, cues, count=25, apart=(0, 0, 0, 1, 1, 2, 3, 9, 30)):
    """Deeds of all sorts, some of which do nothing; the same ones for the same seed."""
    chance = random.Random(seed)
    numbers = [one.number for one in cues]
    tick = 0
    deeds = []
    for place in range(count):
        tick += chance.choice(apart)
        word = chance.choice(("go", "go", "go", "go", "back", "goto", "goto", "stop", "on", "list"))
        deed = (tick, word)
        if word == "goto":
            deed = (tick, word, chance.choice(numbers * 3 + [0, -1, 7, MOST, MOST + 1]))
        if word == "list":
            deed = (tick, word, short_list(chance.randrange(1000)))
            numbers = [one.number for one in deed[2]]
        deeds.append(deed)
    return deeds


class PlainTelling:
    """[14] to [19] told tick by tick: the clock is counted on by ones, and each tick's state is kept."""

    def __init__(self, cues, deeds, ticks):
        self.cues = cues
        self.number = 0
        self.clock = 0
        self.goes = True
        self.due = None
        self.rows = [(0, cues, 0, "list")]
        self.states = []
        for tick in range(ticks + 1):
            for deed in deeds:
                if deed[0] == tick:
                    self.follow_on()
                    self.do(*deed[1:])
            self.follow_on()
            self.states.append((len(self.rows), self.clock, self.goes, self.number, self.due, self.cues))
            if self.goes:
                self.clock += 1

    def follow_on(self):
        while self.due == self.clock:
            self.due = None
            self.do("go")

    def do(self, word, what=None):
        numbers = [one.number for one in self.cues]
        if word == "go" and any(number > self.number for number in numbers):
            self.march(min(number for number in numbers if number > self.number), "go")
        if word == "back" and self.number != 0:
            self.march(max([0] + [number for number in numbers if number < self.number]), "back")
        if word == "goto" and what in numbers:
            self.march(what, "go")
        if word == "stop":
            self.goes = False
        if word == "on":
            self.goes = True
        if word == "list":
            self.cues = what
            self.rows.append((self.clock, self.cues, self.number, "list"))

    def march(self, number, word):
        self.number = number
        self.goes = True
        follows = [one.follow for one in self.cues if one.number == number and word == "go"]
        self.due = self.clock + follows[0] if follows and follows[0] is not None else None
        self.rows.append((self.clock, self.cues, number, word))

    def state(self, moment):
        """The rows up to a moment, what the clock shows at it, and the rest of the state."""
        count, clock, goes, number, due, cues = self.states[int(moment)]
        return self.rows[:count], clock + (moment - int(moment) if goes else 0), number, due, cues

    def course(self, rows, slot):
        course = PlainCourse(0)
        for clock, cues, number, word in rows:
            worth = plainly_shown(cues, number, slot)
            if worth != course.aim():
                course.tell(clock, *plain_times(cues, number, word, slot), worth)
        return course

    def look(self, moment):
        rows, clock = self.state(moment)[:2]
        slots = {slot for row in rows for slot in slots_of(row[1])}
        look = {slot: self.course(rows, slot).at(clock) for slot in slots}
        return {slot: worth for slot, worth in look.items() if worth != 0}

    def is_still(self, moment):
        rows, clock, number, due, cues = self.state(moment)
        if due is not None and any(one.number > number for one in cues):
            return False
        slots = {slot for row in rows for slot in slots_of(row[1])}
        return all(self.course(rows, slot).still() <= clock for slot in slots)


def plain_times(cues, number, word, slot):
    """Wait, rise and fall, as [19] tells them."""
    if word == "list":
        return 0, 0, 0
    if word == "back":
        return 0, 1000, 1000
    parts = [one for one in cues if one.number == number][0].parts
    telling = [part for part in parts if slot in part.tells or slot in part.alone]
    part = (telling + parts)[0]
    return part.wait, part.rise, part.fall


def some_moments(seeds, count, bottoms):
    """Lists, deeds and moments of all sorts, with the plain telling of them: (cues, deeds, top, bottom, telling)."""
    for seed in seeds:
        # Other seeds for the deeds and the moments, so that they don't go with the list.
        chance = random.Random(seed + 10000)
        cues = short_list(seed)
        deeds = some_deeds(seed + 20000, cues)
        ticks = deeds[-1][0] + 60
        telling = PlainTelling(cues, deeds, ticks)
        for place in range(count):
            bottom = chance.choice(bottoms)
            yield cues, deeds, chance.randrange(ticks * bottom), bottom, telling
