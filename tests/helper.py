"""What several tests need: odd things, refusals, lists of cues and deeds of all sorts, and the promises told again.

What is told again here is told as plainly as can be, and shares nothing with the program but parts and cues.
"""

import inspect
import itertools
import random
from collections import OrderedDict, UserDict, UserList, UserString, defaultdict
from decimal import Decimal
from fractions import Fraction

from lampcues import errors
from lampcues.cues import Cue, Part
from lampcues.errors import LampError

MOST = 10 ** 9
SIDES = ("blue", "bright", "green", "pan", "red", "tilt")
LAMPS = ("a", "spot", "wash")
SLOTS = [(lamp, side) for lamp in LAMPS for side in SIDES]
REFUSALS = [errors.NoText, errors.NoTime, errors.NoSlot, errors.NoWorth, errors.NoPart, errors.NoCue, errors.NoList,
            errors.Late, errors.NoName, errors.MovesBright, errors.NoRow]


class Sulky:
    """Fails at whatever is asked of it, but for its kind."""

    def sulk(self, *some):
        raise RuntimeError("asked of what it can't tell")

    __eq__ = __ne__ = __lt__ = __le__ = __gt__ = __ge__ = __hash__ = __bool__ = __len__ = __iter__ = sulk
    __contains__ = __getitem__ = __int__ = __index__ = __str__ = __repr__ = __add__ = __radd__ = sulk


class SulkyKey(Sulky):
    """May be a key of a dict, but is held against none."""

    def __hash__(self):
        return 7


class NumberLike:
    """Looks like a whole number, and is none."""

    def __index__(self):
        return 1

    def __int__(self):
        return 1

    def __eq__(self, other):
        return True

    def __hash__(self):
        return 1

    def __le__(self, other):
        return True

    __lt__ = __ge__ = __gt__ = __le__


# Things that nothing takes, of kinds that the program has no use for.
ODD = [
    None, True, False, 1.0, 0.0, 2.5, float("nan"), float("inf"), 1j, Decimal(1), Fraction(1), b"", b"spot",
    bytearray(b"a"), set(), frozenset(), {("spot", "pan")}, range(3), iter([]), slice(1), NotImplemented, ...,
    object(), object, int, str, dict, len, Sulky(), SulkyKey(), NumberLike(), Cue, Part, LampError("x"),
    memoryview(b"a"), UserDict(), UserList(), UserString("spot"), (one for one in []),
]
TEXTS = ["", "a", "0", "1", "spot", "bright", "cue 1", "1000"]
TUPLES = [(), (1,), ("spot",), ("spot", "pan", "pan"), (Part({}, {}),), (Cue(1, [Part({}, {})]),), (None, None)]
LISTS = [[], [1], ["spot", "pan"], [Part({}, {})], [Cue(1, [Part({}, {})])], [None], [[]]]
DICTS = [{}, {1: 1}, {("spot", "pan"): 1}, {"spot": {}}, OrderedDict(), defaultdict(int)]
NUMBERS = [0, 1, 5, MOST]
WRONG_NUMBERS = [-1, -2, -MOST, -10 ** 40, -10 ** 5000]
NO_LAMPS = ["", "abcdefghi", "spotspotspot", "A", "Spot", "spoT", "spot1", "1", "a b", " a", "a ", "a\n", "\n", "\ta",
            "a_b", "a-b", "a.b", "`", "{", "@", "[", "\x00", "a\x00", "\u00e9", "\u00df", "\u0430", "\uff41", "\u00aa"]
NO_SIDES = ["", "Pan", "PAN", "pa", "pann", "pan ", " pan", "pan\n", "bright1", "white", "spot", "bluebright", "x"]
NO_SLOTS = (
    [("spot", side) for side in NO_SIDES] + [(lamp, "pan") for lamp in NO_LAMPS]
    + [(thing, "pan") for thing in ODD + TUPLES + LISTS + DICTS + NUMBERS]
    + [("spot", thing) for thing in ODD + TUPLES + LISTS + DICTS + NUMBERS]
    + [["spot", "pan"], ("pan", "spot"), ("spot", "pan", "pan"), ("spot", "pan", 1), ("spot",), (), "spot pan", "sp",
       ("spot", ("pan",)), (("spot",), "pan"), (("spot", "pan"),), {"spot": "pan"}]
    + ODD + TUPLES + LISTS + DICTS + TEXTS + NUMBERS + WRONG_NUMBERS)
NO_WORTHS = [-1, MOST + 1, 10 ** 10, 10 ** 5000] + WRONG_NUMBERS + ODD + TUPLES + LISTS + DICTS + TEXTS
NO_NAMES = NO_LAMPS + ODD + TUPLES + LISTS + DICTS + NUMBERS + WRONG_NUMBERS + [("a",), ["a"], {"a": 1}]
NO_LAMP_LISTS = (
    ODD + TUPLES + DICTS + TEXTS + NUMBERS + ["spot", ("spot",), ("a", "b"), {"spot": 1}, ["spot", "pan", "Pan"]]
    + [[thing] for thing in NO_NAMES] + [["a", thing] for thing in NO_NAMES] + [[thing, "a"] for thing in NO_NAMES])
NO_LEVELS = [1001, 1002, 5000, MOST] + NO_WORTHS
TIMES = (0, 0, 1, 20, 300, 1000, 1250, 60000, MOST)
FOLLOWS = (None, None, 0, 1, 1500, MOST)
# Short enough to be told tick by tick.
SHORT_TIMES = (0, 0, 1, 2, 3, 7, 20, 45)
SHORT_FOLLOWS = (None, None, None, 0, 0, 1, 2, 5, 16, 40)


def can_be_key(thing):
    try:
        hash(thing)
    except (TypeError, RuntimeError, ValueError):
        return False
    return True


def cue(number):
    return Cue(number, [Part({}, {})])


def on(number, tells, rise=0, fall=0, wait=0, follow=None):
    return Cue(number, [Part(tells, {}, rise, fall, wait)], False, follow)


def no_lists():
    """Whatever is no list of cues with rising numbers."""
    one = cue(1)
    things = [thing for thing in LISTS if thing and not isinstance(thing[0], Cue)]
    things += [(one,), one, {one: 1}, {1: one}, [one, None], [None, one], [one, [one]], [[one]], [one, (one,)],
               [one, one], [one, cue(1)], [cue(2), one], [one, cue(3), cue(2)], [one, cue(3), cue(3)],
               [cue(2), cue(3), one], [cue(MOST), cue(MOST - 1)], [cue(9), cue(10), cue(10), cue(11)], iter([one])]
    things += [[thing] for thing in ODD + TUPLES + LISTS + DICTS + TEXTS + NUMBERS]
    things += [[one, thing] for thing in ODD + TUPLES + LISTS + DICTS + TEXTS + NUMBERS]
    return things + ODD + TUPLES + DICTS + TEXTS + NUMBERS + WRONG_NUMBERS


def refused(test, kind, call, *given, **named):
    """The refusal that the call makes: of just this class."""
    try:
        call(*given, **named)
    except LampError as fault:
        test.assertIs(type(fault), kind)
        test.assertIsInstance(fault, ValueError)
        test.assertEqual([one for one in REFUSALS if isinstance(fault, one)], [kind])
        return fault
    test.fail("not refused with " + kind.__name__)


def arguments_of(call):
    """The names of what it takes, in order, and what is taken where one is left out."""
    spec = inspect.signature(call).parameters.values()
    return [one.name if one.default is inspect.Parameter.empty else (one.name, one.default) for one in spec]


def some_part(chance, slots, spans):
    tells = {}
    alone = {}
    for slot in slots:
        way = chance.randrange(4)
        if way in (0, 2):
            tells[slot] = chance.choice((0, 0, 1, 2, 500, MOST))
        if way in (1, 2):
            alone[slot] = chance.choice((0, 0, 1, 3, 700, MOST))
    times = [chance.choice(spans) for place in range(3)]
    return Part(tells, alone, *times)


def some_cue(chance, number, slots, spans, follows):
    drawn = chance.sample(slots, chance.randrange(len(slots) + 1))
    parts = []
    count = chance.choice((1, 1, 1, 2, 3, 9))
    for place in range(count):
        parts.append(some_part(chance, drawn[place::count], spans))
    follow = chance.choice(follows)
    return Cue(number, parts, chance.randrange(4) == 0, follow)


def some_list(seed, most=8, spans=TIMES, follows=FOLLOWS):
    """A list of cues, the same one for the same seed."""
    chance = random.Random(seed)
    slots = [(lamp, side) for lamp in ("a", "spot", "wash") for side in ("bright", "pan")]
    numbers = sorted(chance.sample(range(1, 25), chance.randrange(most + 1)))
    if numbers and chance.randrange(5) == 0:
        numbers[-1] = MOST
    return [some_cue(chance, number, slots, spans, follows) for number in numbers]


def plain(cues):
    """All that a list tells, in dicts and tuples of its own."""
    rows = []
    for cue in cues:
        parts = [(dict(part.tells), dict(part.alone), part.rise, part.fall, part.wait) for part in cue.parts]
        rows.append((cue.number, parts, cue.stops, cue.follow))
    return rows


def evenly(start, end, length, moment):
    """Where [6] puts a thing, by fractions."""
    if moment < 0:
        return start
    if moment >= length:
        return end
    steps = int(abs(end - start) * moment / length)
    return start + steps if end > start else start - steps


class PlainCourse:
    """All that [7] says, told again from the first fade at each question."""

    def __init__(self, first):
        self.first = first
        self.heard = []

    def tell(self, now, wait, rise, fall, end):
        self.heard.append((now, wait, rise, fall, end))

    def left(self):
        left = []
        for now, wait, rise, fall, end in self.heard:
            out = now + wait
            left = [fade for fade in left if fade[0] < out]
            start = self.by(left, Fraction(out))
            left.append((out, start, end, rise if end > start else fall))
        return left

    def by(self, left, moment):
        step = self.first
        for out, start, end, length in left:
            if out <= moment:
                step = evenly(start, end, length, moment - out)
        return step

    def at(self, moment):
        return self.by(self.left(), moment)

    def aim(self):
        return self.heard[-1][4] if self.heard else self.first

    def still(self):
        if not self.heard:
            return 0
        last = self.left()[-1]
        return last[0] + last[3]


def tells_on(one, slot):
    """The worths that a cue's parts tell this slot on at: one or none."""
    return [part.tells[slot] for part in one.parts if slot in part.tells]


def plainly_carried(cues, number, slot):
    """[10] gone through backwards: the last cue that tells the slot on or stops settles it."""
    for one in reversed(cues):
        if one.number <= number:
            told = tells_on(one, slot)
            if told:
                return told[0]
            if one.stops:
                return 0
    return 0


def plainly_shown(cues, number, slot):
    for one in cues:
        if one.number == number:
            for part in one.parts:
                if slot in part.alone:
                    return part.alone[slot]
    return plainly_carried(cues, number, slot)


def slots_of(cues):
    slots = {("spot", "pan"), ("never", "tilt")}
    for one in cues:
        for part in one.parts:
            slots |= set(part.tells) | set(part.alone)
    return sorted(slots)


def plain_looks(cues):
    """The looks that a list shows at its cues, slot by slot."""
    looks = []
    for one in cues:
        look = {slot: plainly_shown(cues, one.number, slot) for slot in slots_of(cues)}
        looks.append({slot: worth for slot, worth in look.items() if worth != 0})
    return looks


def same_frame(test, cues, made):
    """[30]: the same numbers, follows, parts and times, and each slot told in the part that told it, or the first."""
    for old, new in zip(plain(cues), plain(made), strict=True):
        test.assertEqual((old[0], old[3]), (new[0], new[3]))
        test.assertEqual([part[2:] for part in old[1]], [part[2:] for part in new[1]])
        for place, part in enumerate(new[1]):
            for slot in {**part[0], **part[1]}:
                before = [at for at, one in enumerate(old[1]) if slot in one[0] or slot in one[1]]
                test.assertEqual((before + [0])[0], place)


def least_tellings(worths, stops):
    """How often one slot has to be told to show these: by all that it may carry on behind each cue."""
    counts = {0: 0}
    for worth, stop in zip(worths, stops):
        if stop:
            counts = {0: min(counts.values())}
        behind = {}
        for before, count in counts.items():
            for carried in {before, *worths}:
                told = count + (carried != before) + (carried != worth)
                behind[carried] = min(told, behind.get(carried, told))
        counts = behind
    return min(counts.values())


def least_weight(looks):
    """The least weight of a list that shows these looks: by all choices of the cues that stop."""
    weights = []
    for stops in itertools.product((False, True), repeat=len(looks)):
        slots = {slot for look in looks for slot in look}
        columns = [[look.get(slot, 0) for look in looks] for slot in slots]
        weights.append(sum(stops) + sum(least_tellings(column, stops) for column in columns))
    return min(weights)


def plainly_told(rows, number, slot, worth, place, way):
    """[25] done to what plain tells of a list; the way is 0 for on, 1 for alone."""
    parts = [row[1] for row in rows if row[0] == number][0]
    telling = [one for one, part in enumerate(parts) if slot in part[0] or slot in part[1]]
    parts[(telling + [place])[0]][way][slot] = worth


def plainly_kept(cues, number):
    left = [one for one in cues if one.number != number]
    rows = plain(left)
    behind = [one.number for one in left if one.number > number][:1]
    for slot in slots_of(cues) if behind else []:
        worth = plainly_carried(cues, behind[0], slot)
        if plainly_carried(left, behind[0], slot) != worth:
            plainly_told(rows, behind[0], slot, worth, 0, 0)
    return rows


def short_list(seed, most=8):
    return some_list(seed, most, SHORT_TIMES, SHORT_FOLLOWS)


def some_deeds(seed, cues, count=25, apart=(0, 0, 0, 1, 1, 2, 3, 9, 30)):
    """Deeds of all sorts, some of which do nothing; the same ones for the same seed."""
    chance = random.Random(seed)
    numbers = [one.number for one in cues]
    tick = 0
    deeds = []
    for place in range(count):
        tick += chance.choice(apart)
        word = chance.choice(("go", "go", "go", "go", "back", "goto", "goto", "stop", "on", "list"))
        deed = (tick, word)
        if word == "goto":
            deed = (tick, word, chance.choice(numbers * 3 + [0, -1, 7, MOST, MOST + 1]))
        if word == "list":
            deed = (tick, word, short_list(chance.randrange(1000)))
            numbers = [one.number for one in deed[2]]
        deeds.append(deed)
    return deeds


class PlainTelling:
    """[14] to [19] told tick by tick: the clock is counted on by ones, and each tick's state is kept."""

    def __init__(self, cues, deeds, ticks):
        self.cues = cues
        self.number = 0
        self.clock = 0
        self.goes = True
        self.due = None
        self.rows = [(0, cues, 0, "list")]
        self.states = []
        for tick in range(ticks + 1):
            for deed in deeds:
                if deed[0] == tick:
                    self.follow_on()
                    self.do(*deed[1:])
            self.follow_on()
            self.states.append((len(self.rows), self.clock, self.goes, self.number, self.due, self.cues))
            if self.goes:
                self.clock += 1

    def follow_on(self):
        while self.due == self.clock:
            self.due = None
            self.do("go")

    def do(self, word, what=None):
        numbers = [one.number for one in self.cues]
        if word == "go" and any(number > self.number for number in numbers):
            self.march(min(number for number in numbers if number > self.number), "go")
        if word == "back" and self.number != 0:
            self.march(max([0] + [number for number in numbers if number < self.number]), "back")
        if word == "goto" and what in numbers:
            self.march(what, "go")
        if word == "stop":
            self.goes = False
        if word == "on":
            self.goes = True
        if word == "list":
            self.cues = what
            self.rows.append((self.clock, self.cues, self.number, "list"))

    def march(self, number, word):
        self.number = number
        self.goes = True
        follows = [one.follow for one in self.cues if one.number == number and word == "go"]
        self.due = self.clock + follows[0] if follows and follows[0] is not None else None
        self.rows.append((self.clock, self.cues, number, word))

    def state(self, moment):
        """The rows up to a moment, what the clock shows at it, and the rest of the state."""
        count, clock, goes, number, due, cues = self.states[int(moment)]
        return self.rows[:count], clock + (moment - int(moment) if goes else 0), number, due, cues

    def course(self, rows, slot):
        course = PlainCourse(0)
        for clock, cues, number, word in rows:
            worth = plainly_shown(cues, number, slot)
            if worth != course.aim():
                course.tell(clock, *plain_times(cues, number, word, slot), worth)
        return course

    def look(self, moment):
        rows, clock = self.state(moment)[:2]
        slots = {slot for row in rows for slot in slots_of(row[1])}
        look = {slot: self.course(rows, slot).at(clock) for slot in slots}
        return {slot: worth for slot, worth in look.items() if worth != 0}

    def is_still(self, moment):
        rows, clock, number, due, cues = self.state(moment)
        if due is not None and any(one.number > number for one in cues):
            return False
        slots = {slot for row in rows for slot in slots_of(row[1])}
        return all(self.course(rows, slot).still() <= clock for slot in slots)


def plain_times(cues, number, word, slot):
    """Wait, rise and fall, as [19] tells them."""
    if word == "list":
        return 0, 0, 0
    if word == "back":
        return 0, 1000, 1000
    parts = [one for one in cues if one.number == number][0].parts
    telling = [part for part in parts if slot in part.tells or slot in part.alone]
    part = (telling + parts)[0]
    return part.wait, part.rise, part.fall


def some_moments(seeds, count, bottoms):
    """Lists, deeds and moments of all sorts, with the plain telling of them: (cues, deeds, top, bottom, telling)."""
    for seed in seeds:
        # Other seeds for the deeds and the moments, so that they don't go with the list.
        chance = random.Random(seed + 10000)
        cues = short_list(seed)
        deeds = some_deeds(seed + 20000, cues)
        ticks = deeds[-1][0] + 60
        telling = PlainTelling(cues, deeds, ticks)
        for place in range(count):
            bottom = chance.choice(bottoms)
            yield cues, deeds, chance.randrange(ticks * bottom), bottom, telling


class PlainBoard:
    """[22] to [24] told again: all deeds are gone through from the first one at each question, slot by slot."""

    def __init__(self):
        self.log = []

    def held(self, fader, slot):
        worth = None
        groups = {}
        for word, name, *rest in self.log:
            if word == "group":
                groups[name] = rest[0]
            if word == "fill" and name == fader and rest[0] == slot:
                worth = rest[1]
            if word == "fill_group" and name == fader and rest[1] == slot[1] and slot[0] in groups[rest[0]]:
                worth = rest[2]
        return worth

    def moves(self, fader):
        """When it was touched, and the level it was moved to."""
        never = [(-1, 0)]
        return never + [(place, deed[2]) for place, deed in enumerate(self.log) if deed[:2] == ("move", fader)]

    def bids(self, look, slot):
        """All that a slot may stand at: (how it ranks, how its name ranks, its name, its number)."""
        bids = [(look.get(slot, 0) if slot[1] == "bright" else -1, 0, "", look.get(slot, 0))]
        for place, fader in enumerate(sorted({deed[1] for deed in self.log})):
            worth = self.held(fader, slot)
            touch, level = self.moves(fader)[-1]
            if worth is not None and slot[1] == "bright":
                bids.append((worth * level // 1000, -1 - place, fader, worth * level // 1000))
            elif worth is not None and level > 0:
                bids.append((touch, -1 - place, fader, worth))
        return bids

    def winner(self, look, slot):
        return max(self.bids(look, slot))[2]

    def down(self, lamp):
        downs = {deed[1]: deed[2] for deed in self.log if deed[0] == "down"}
        return max([0] + [downs[hand] for hand in downs if ("spare", hand, lamp) not in self.log])

    def mixed(self, look):
        mix = {slot: max(self.bids(look, slot))[3] for slot in SLOTS}
        for lamp in LAMPS:
            slot = (lamp, "bright")
            mix[slot] = mix[slot] * (1000 - self.down(lamp)) // 1000
        return {slot: worth for slot, worth in mix.items() if worth != 0}


def ticks_in(word):
    return int(Decimal(word) * 1000)


def plainly_changed(cues, word, words):
    """The list that a desk's deed makes of this one, or None where it can't be done."""
    number = int(words[0])
    if any(one.number == number for one in cues) == (word == "put"):
        return None
    rows = plain(cues)
    parts = [part for row in rows if row[0] == number for part in row[1]]
    if word == "put":
        times = [ticks_in(one) for one in words[1:] if one != "follow"]
        follow = times[3] if len(times) > 3 else None
        rows = sorted(rows + [(number, [({}, {}, *times[:3])], False, follow)], key=lambda row: row[0])
    elif word == "out":
        rows = [row for row in rows if row[0] != number]
    elif word == "keep":
        rows = plainly_kept(cues, number)
    elif word in ("tell", "alone"):
        plainly_told(rows, number, (words[1], words[2]), int(words[3]), 0, ("tell", "alone").index(word))
    elif word == "untell":
        for told in [told for part in parts for told in part[:2]]:
            told.pop((words[1], words[2]), None)
    else:
        rows = [row[:2] + (word == "block" if row[0] == number else row[2],) + row[3:] for row in rows]
    return [Cue(row[0], [Part(*part) for part in row[1]], row[2], row[3]) for row in rows]


class PlainDesk:
    """[37] and [38] told again at each question, from all rows that were heard till then."""

    def __init__(self, cues=()):
        self.cues = list(cues)
        self.heard = []

    def hear(self, row):
        hand, tick = row.split(" ")[:2]
        self.heard.append((int(tick), hand, len(self.heard), row))

    def rows(self):
        return [heard[3] for heard in sorted(self.heard)]

    def at(self, moment):
        """The picture, the number on which one stands, and the list."""
        cues = self.cues
        deeds = []
        board = PlainBoard()
        for row in self.rows():
            hand, tick, word, *words = row.split(" ")
            if int(tick) > moment:
                continue
            if word in ("go", "back", "stop", "on", "goto"):
                deeds.append((int(tick), word) + tuple(int(one) for one in words))
            elif word == "fill":
                board.log.append((word, words[0], (words[1], words[2]), int(words[3])))
            elif word == "move":
                board.log.append((word, words[0], int(words[1])))
            elif word == "down":
                board.log.append((word, hand, int(words[0])))
            elif word == "spare":
                board.log.append((word, hand, words[0]))
            else:
                new = plainly_changed(cues, word, words)
                if new is not None:
                    cues = new
                    deeds.append((int(tick), "list", cues))
        telling = PlainTelling(self.cues, deeds, int(moment) + 1)
        return board.mixed(telling.look(moment)), telling.state(moment)[2], telling.state(moment)[4]


def some_desk_row(chance, hand, tick):
    """A row that hands may tell; many of them can't be done."""
    number = str(chance.choice((1, 1, 2, 2, 3, 4, 7, 12)))
    slot = " ".join(chance.choice([slot for slot in SLOTS if slot[1] in ("bright", "pan")]))
    times = " ".join(chance.choice(("0", "0", "0.001", "0.004", "0.007", "0.03")) for place in range(3))
    worth = chance.choice((" 0", " 1", " 40", " 1000"))
    deed = chance.choice((
        "go", "go", "go", "go", "back", "goto " + number, "stop", "on", "put " + number + " " + times,
        "put " + number + " " + times, "put " + number + " " + times,
        "put " + number + " " + times + " follow " + chance.choice(("0", "0.002", "0.01")), "out " + number,
        "keep " + number, "tell " + number + " " + slot + worth, "tell " + number + " " + slot + worth,
        "tell " + number + " " + slot + worth, "alone " + number + " " + slot + worth,
        "untell " + number + " " + slot, "block " + number, "unblock " + number,
        "fill " + chance.choice("ab") + " " + slot + worth,
        "move " + chance.choice("ab") + " " + str(chance.choice((0, 1, 500, 1000))),
        "down " + str(chance.choice((0, 0, 300, 1000))), "spare " + chance.choice(LAMPS)))
    return hand + " " + str(tick) + " " + deed


def some_hands(chance, count=3, most=10, apart=(0, 0, 0, 1, 2, 5, 20)):
    """For each hand the rows that it tells, in order."""
    hands = []
    for hand in chance.sample(("a", "anna", "b", "bob", "go", "zzzzzzzz"), count):
        tick = 0
        rows = []
        for place in range(chance.randrange(most + 1)):
            tick += chance.choice(apart)
            rows.append(some_desk_row(chance, hand, tick))
        hands.append(rows)
    return hands


def woven(chance, hands):
    """The rows of all hands in one of the ways in which each hand's own stay in order."""
    order = [place for place, rows in enumerate(hands) for row in rows]
    chance.shuffle(order)
    left = [list(rows) for rows in hands]
    return [left[place].pop(0) for place in order]


def all_weavings(hands):
    if not any(hands):
        return [[]]
    ways = []
    for place, rows in enumerate(hands):
        if rows:
            rest = hands[:place] + [rows[1:]] + hands[place + 1:]
            ways += [[rows[0]] + way for way in all_weavings(rest)]
    return ways
