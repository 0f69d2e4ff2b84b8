"""Cues and their parts: what may be told of slots, and what a list of cues is."""

from lampcues.errors import NoCue, NoList, NoPart, NoSlot, NoTime, NoWorth
from lampcues.times import is_time
from lampcues.wholes import is_whole

SIDES = ("blue", "bright", "green", "pan", "red", "tilt")
LETTERS = "abcdefghijklmnopqrstuvwxyz"
MOST_LETTERS = 8
MOST_WORTH = 1000000000
MOST_NUMBER = 1000000000
MOST_PARTS = 9


def is_lamp(thing):
    if not isinstance(thing, str):
        return False
    return 1 <= len(thing) <= MOST_LETTERS and all([sign in LETTERS for sign in thing])


def is_side(thing):
    # Its kind is asked first: things of other kinds may fail as they are held against a text.
    return isinstance(thing, str) and thing in SIDES


def is_slot(thing):
    if not isinstance(thing, tuple) or len(thing) != 2:
        return False
    return is_lamp(thing[0]) and is_side(thing[1])


def is_bright(slot):
    return slot[1] == "bright"


def is_worth(thing):
    return is_whole(thing) and 0 <= thing <= MOST_WORTH


def refuse_slot(thing):
    if not is_slot(thing):
        raise NoSlot("a slot is a lamp and a side")


def refuse_worth(thing):
    if not is_worth(thing):
        raise NoWorth("a worth is a whole number from 0 to 10 ** 9")


def is_cue_number(thing):
    return is_whole(thing) and 1 <= thing <= MOST_NUMBER


def has_slots_as_keys(thing):
    return isinstance(thing, dict) and all([is_slot(key) for key in thing])


class Part:
    def __init__(self, tells, alone, rise=0, fall=0, wait=0):
        # One refusal after the other for both dicts, as NoSlot of either goes ahead of NoWorth of either.
        for told in (tells, alone):
            if not has_slots_as_keys(told):
                raise NoSlot("a part tells by a dict from slots")
        for told in (tells, alone):
            for worth in told.values():
                refuse_worth(worth)
        if not all([is_time(ticks) for ticks in (rise, fall, wait)]):
            raise NoTime("rise, fall and wait are times")
        self.tells = dict(tells)
        self.alone = dict(alone)
        self.rise = rise
        self.fall = fall
        self.wait = wait

    def told_slots(self):
        return sorted(set(self.tells) | set(self.alone))


def is_part_list(thing):
    if not isinstance(thing, list) or not 1 <= len(thing) <= MOST_PARTS:
        return False
    if not all([isinstance(part, Part) for part in thing]):
        return False
    slots = []
    for part in thing:
        slots.extend(part.told_slots())
    return len(slots) == len(set(slots))


class Cue:
    def __init__(self, number, parts, stops=False, follow=None):
        if not is_cue_number(number):
            raise NoCue("a cue's number is a whole number from 1 to 10 ** 9")
        if not is_part_list(parts):
            raise NoPart("a cue has a list of one to nine parts, no two of which tell a slot")
        if follow is not None and not is_time(follow):
            raise NoTime("a cue is followed in a time, or it is None")
        self.number = number
        self.parts = list(parts)
        self.stops = stops
        self.follow = follow

    def part_of(self, slot):
        refuse_slot(slot)
        for part in self.parts:
            if slot in part.tells or slot in part.alone:
                return part
        return self.parts[0]


def cue_list(cues):
    if not isinstance(cues, list) or not all([isinstance(cue, Cue) for cue in cues]):
        raise NoList("this is no list of cues")
    for place in range(1, len(cues)):
        if cues[place].number <= cues[place - 1].number:
            raise NoList("the numbers of a list's cues rise")
    return list(cues)


def plain_part(part):
    return (part.tells, part.alone, part.rise, part.fall, part.wait)


def plain_cue(cue):
    return (cue.number, [plain_part(part) for part in cue.parts], cue.stops, cue.follow)


def alike(one, other):
    ones = [plain_cue(cue) for cue in cue_list(one)]
    others = [plain_cue(cue) for cue in cue_list(other)]
    return ones == others
