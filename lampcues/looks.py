"""Looks: what a list of cues carries on and shows where one stands in it."""

from lampcues.cues import cue_list
from lampcues.errors import NoCue
from lampcues.wholes import is_whole


def checked(cues, number):
    own = cue_list(cues)
    if not is_whole(number) or number < 0:
        raise NoCue("one stands in a list on a whole number from 0 on")
    return own


def put_in(look, told):
    for slot, worth in told.items():
        if worth > 0:
            look[slot] = worth
        else:
            # A look has no slots at 0, so what was carried there goes.
            look.pop(slot, None)


def carried(cues, number):
    look = {}
    for cue in checked(cues, number):
        if cue.number > number:
            break
        if cue.stops:
            look = {}
        for part in cue.parts:
            put_in(look, part.tells)
    return look


def shown(cues, number):
    look = carried(cues, number)
    cue = cue_at(cues, number)
    if cue is not None:
        for part in cue.parts:
            put_in(look, part.alone)
    return look


def looks_of(cues):
    return [shown(cues, cue.number) for cue in cue_list(cues)]


def above(cues, number):
    return min([cue.number for cue in checked(cues, number) if cue.number > number], default=0)


def below(cues, number):
    return max([cue.number for cue in checked(cues, number) if cue.number < number], default=0)


def cue_at(cues, number):
    for cue in checked(cues, number):
        if cue.number == number:
            return cue
    return None


# For whoever can do nothing without the cue.
def needed_cue(cues, number):
    cue = cue_at(cues, number)
    if cue is None:
        raise NoCue("no cue of the list has this number")
    return cue
