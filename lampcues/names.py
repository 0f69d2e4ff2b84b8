"""Names of faders, groups and hands, and lists of lamps."""

from lampcues.cues import is_lamp
from lampcues.errors import NoName


def refuse_name(thing):
    # Names are written just as lamps are.
    if not is_lamp(thing):
        raise NoName("a name, as a lamp, is one to eight small letters")


def refuse_lamps(thing):
    if not isinstance(thing, list):
        raise NoName("lamps are told by a list of them")
    for lamp in thing:
        refuse_name(lamp)
