"""What several tests of cues, looks and texts need: odd things, refusals, and lists of cues of all sorts."""

import random
from collections import OrderedDict, UserDict, UserList, UserString, defaultdict
from decimal import Decimal
from fractions import Fraction

from lampcues import errors
from lampcues.cues import Cue, Part
from lampcues.errors import LampError

MOST = 10 ** 9
SIDES = ("blue", "bright", "green", "pan", "red", "tilt")
REFUSALS = [errors.NoText, errors.NoTime, errors.NoSlot, errors.NoWorth, errors.NoPart, errors.NoCue, errors.NoList,
            errors.Late, errors.NoName, errors.MovesBright, errors.NoRow]


class Sulky:
    """Fails at whatever is asked of it, but for its kind."""

    def sulk(self, *some):
        raise RuntimeError("asked of what it can't tell")

    __eq__ = __ne__ = __lt__ = __le__ = __gt__ = __ge__ = __hash__ = __bool__ = __len__ = __iter__ = sulk
    __contains__ = __getitem__ = __int__ = __index__ = __str__ = __repr__ = __add__ = __radd__ = sulk


class SulkyKey(Sulky):
    """May be a key of a dict, but is held against none."""

    def __hash__(self):
        return 7


class NumberLike:
    """Looks like a whole number, and is none."""

    def __index__(self):
        return 1

    def __int__(self):
        return 1

    def __eq__(self, other):
        return True

    def __hash__(self):
        return 1

    def __le__(self, other):
        return True

    __lt__ = __ge__ = __gt__ = __le__


# Things that nothing takes, of kinds that the program has no use for.
ODD = [
    None, True, False, 1.0, 0.0, 2.5, float("nan"), float("inf"), 1j, Decimal(1), Fraction(1), b"", b"spot",
    bytearray(b"a"), set(), frozenset(), {("spot", "pan")}, range(3), iter([]), slice(1), NotImplemented, ...,
    object(), object, int, str, dict, len, Sulky(), SulkyKey(), NumberLike(), Cue, Part, LampError("x"),
    memoryview(b"a"), UserDict(), UserList(), UserString("spot"), (one for one in []),
]
TEXTS = ["", "a", "0", "1", "spot", "bright", "cue 1", "1000"]
TUPLES = [(), (1,), ("spot",), ("spot", "pan", "pan"), (Part({}, {}),), (Cue(1, [Part({}, {})]),), (None, None)]
LISTS = [[], [1], ["spot", "pan"], [Part({}, {})], [Cue(1, [Part({}, {})])], [None], [[]]]
DICTS = [{}, {1: 1}, {("spot", "pan"): 1}, {"spot": {}}, OrderedDict(), defaultdict(int)]
NUMBERS = [0, 1, 5, MOST]
WRONG_NUMBERS = [-1, -2, -MOST, -10 ** 40, -10 ** 5000]


def cue(number):
    return Cue(number, [Part({}, {})])


def no_lists():
    """Whatever is no list of cues with rising numbers."""
    one = cue(1)
    things = [thing for thing in LISTS if thing and not isinstance(thing[0], Cue)]
    things += [(one,), one, {one: 1}, {1: one}, [one, None], [None, one], [one, [one]], [[one]], [one, (one,)],
               [one, one], [one, cue(1)], [cue(2), one], [one, cue(3), cue(2)], [one, cue(3), cue(3)],
               [cue(2), cue(3), one], [cue(MOST), cue(MOST - 1)], [cue(9), cue(10), cue(10), cue(11)], iter([one])]
    things += [[thing] for thing in ODD + TUPLES + LISTS + DICTS + TEXTS + NUMBERS]
    things += [[one, thing] for thing in ODD + TUPLES + LISTS + DICTS + TEXTS + NUMBERS]
    return things + ODD + TUPLES + DICTS + TEXTS + NUMBERS + WRONG_NUMBERS


def refused(test, kind, call, *given, **named):
    """The refusal that the call makes: of just this class."""
    try:
        call(*given, **named)
    except LampError as fault:
        test.assertIs(type(fault), kind)
        test.assertIsInstance(fault, ValueError)
        test.assertEqual([one for one in REFUSALS if isinstance(fault, one)], [kind])
        return fault
    test.fail("not refused with " + kind.__name__)


def some_part(chance, slots):
    tells = {}
    alone = {}
    for slot in slots:
        way = chance.randrange(4)
        if way in (0, 2):
            tells[slot] = chance.choice((0, 0, 1, 2, 500, MOST))
        if way in (1, 2):
            alone[slot] = chance.choice((0, 0, 1, 3, 700, MOST))
    times = [chance.choice((0, 0, 1, 20, 300, 1000, 1250, 60000, MOST)) for place in range(3)]
    return Part(tells, alone, *times)


def some_cue(chance, number, slots):
    drawn = chance.sample(slots, chance.randrange(len(slots) + 1))
    parts = []
    count = chance.choice((1, 1, 1, 2, 3, 9))
    for place in range(count):
        parts.append(some_part(chance, drawn[place::count]))
    follow = chance.choice((None, None, 0, 1, 1500, MOST))
    return Cue(number, parts, chance.randrange(4) == 0, follow)


def some_list(seed, most=8):
    """A list of cues, the same one for the same seed."""
    chance = random.Random(seed)
    slots = [(lamp, side) for lamp in ("a", "spot", "wash") for side in ("bright", "pan")]
    numbers = sorted(chance.sample(range(1, 25), chance.randrange(most + 1)))
    if numbers and chance.randrange(5) == 0:
        numbers[-1] = MOST
    return [some_cue(chance, number, slots) for number in numbers]


def plain(cues):
    """All that a list tells, in dicts and tuples of its own."""
    rows = []
    for cue in cues:
        parts = [(dict(part.tells), dict(part.alone), part.rise, part.fall, part.wait) for part in cue.parts]
        rows.append((cue.number, parts, cue.stops, cue.follow))
    return rows
