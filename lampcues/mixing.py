"""Mixing: what a level makes of a worth, and what a hand's down leaves of it."""

from lampcues.cues import refuse_worth
from lampcues.errors import NoWorth
from lampcues.wholes import is_whole

MOST_LEVEL = 1000


def is_level(thing):
    return is_whole(thing) and 0 <= thing <= MOST_LEVEL


def refuse_level(thing):
    if not is_level(thing):
        raise NoWorth("a level or down is a whole number from 0 to 1000")


def amount(worth, level):
    refuse_worth(worth)
    refuse_level(level)
    return worth * level // MOST_LEVEL


def lowered(worth, down):
    refuse_worth(worth)
    refuse_level(down)
    return worth * (MOST_LEVEL - down) // MOST_LEVEL
