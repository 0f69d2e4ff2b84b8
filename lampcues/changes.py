"""Changes: a list of cues made into another one, while the one handed in stays."""

from lampcues.cues import Cue, Part, cue_list, refuse_slot, refuse_worth
from lampcues.errors import NoCue, NoPart
from lampcues.looks import above, carried, needed_cue
from lampcues.wholes import is_whole


def told_on(cues, number, slot, worth, part=0):
    cue = needed_cue(cues, number)
    place = place_to_tell(cue, slot, worth, part)
    old = cue.parts[place]
    new = retold(old, with_worth(old.tells, slot, worth), old.alone)
    return with_cue(cues, with_part(cue, place, new))


def told_alone(cues, number, slot, worth, part=0):
    cue = needed_cue(cues, number)
    place = place_to_tell(cue, slot, worth, part)
    old = cue.parts[place]
    new = retold(old, old.tells, with_worth(old.alone, slot, worth))
    return with_cue(cues, with_part(cue, place, new))


def untold(cues, number, slot):
    cue = needed_cue(cues, number)
    refuse_slot(slot)
    parts = [retold(part, without(part.tells, slot), without(part.alone, slot)) for part in cue.parts]
    return with_cue(cues, Cue(cue.number, parts, cue.stops, cue.follow))


def stopped(cues, number, stops=True):
    cue = needed_cue(cues, number)
    return with_cue(cues, Cue(cue.number, cue.parts, stops, cue.follow))


def put_in(cues, cue):
    own = cue_list(cues)
    if not isinstance(cue, Cue):
        raise NoCue("this is no cue")
    ahead = [other for other in own if other.number < cue.number]
    behind = [other for other in own if other.number > cue.number]
    if len(ahead) + len(behind) < len(own):
        raise NoCue("a cue of the list has this number already")
    return ahead + [cue] + behind


def taken_out(cues, number, keep=False):
    needed_cue(cues, number)
    left = [cue for cue in cues if cue.number != number]
    behind = above(left, number)
    if not keep or behind == 0:
        return left
    before = carried(cues, behind)
    now = carried(left, behind)
    for slot in sorted(set(before) | set(now)):
        if before.get(slot, 0) != now.get(slot, 0):
            left = told_on(left, behind, slot, before.get(slot, 0))
    return left


# Refuses first, in the order of the arguments, whatever is no telling.
def place_to_tell(cue, slot, worth, part):
    refuse_slot(slot)
    refuse_worth(worth)
    if not is_whole(part) or not 0 <= part < len(cue.parts):
        raise NoPart("the cue has no part at this place")
    # By places: one part may stand in a cue at several ones, as long as it tells nothing.
    for place, other in enumerate(cue.parts):
        if slot in other.tells or slot in other.alone:
            return place
    return part


def retold(part, tells, alone):
    return Part(tells, alone, part.rise, part.fall, part.wait)


def with_worth(told, slot, worth):
    new = dict(told)
    new[slot] = worth
    return new


def without(told, slot):
    left = dict(told)
    left.pop(slot, None)
    return left


def with_part(cue, place, part):
    parts = list(cue.parts)
    parts[place] = part
    return Cue(cue.number, parts, cue.stops, cue.follow)


def with_cue(cues, cue):
    return [cue if other.number == cue.number else other for other in cues]
