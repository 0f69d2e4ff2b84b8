"""Rows: what hands tell the desk, word by word."""

from lampcues.cues import MOST_NUMBER, MOST_WORTH, is_lamp, is_side
from lampcues.errors import NoRow, NoText
from lampcues.mixing import MOST_LEVEL
from lampcues.reader import whole_of
from lampcues.times import time_of

MOST_TICK = 999999999999
# Great words stand for what is read there, small ones for themselves.
DEEDS = (
    "go", "back", "goto NUMBER", "stop", "on",
    "put NUMBER TIME TIME TIME", "put NUMBER TIME TIME TIME follow TIME", "out NUMBER", "keep NUMBER",
    "tell NUMBER LAMP SIDE WORTH", "alone NUMBER LAMP SIDE WORTH", "untell NUMBER LAMP SIDE",
    "block NUMBER", "unblock NUMBER",
    "fill NAME LAMP SIDE WORTH", "move NAME LEVEL", "down LEVEL", "spare LAMP")


def row_of(row):
    if not isinstance(row, str):
        raise NoRow("a row is a text")
    words = row.split(" ")
    tick = whole_of(words[1], MOST_TICK) if len(words) > 1 else None
    if not is_lamp(words[0]) or tick is None:
        raise NoRow("a row begins with a hand and a tick")
    for deed in DEEDS:
        things = things_by(deed.split(" "), words[2:])
        if things is not None:
            return (words[0], tick, words[2], things)
    raise NoRow("a row ends with a deed")


# What the words tell by the form of a deed, or None where they are not of this form.
def things_by(form, words):
    if len(words) != len(form):
        return None
    things = []
    for kind, word in zip(form, words):
        if kind.islower():
            if word != kind:
                return None
        else:
            thing = thing_of(kind, word)
            if thing is None:
                return None
            things.append(thing)
    return things


def thing_of(kind, word):
    if kind == "NUMBER":
        return None if word == "0" else whole_of(word, MOST_NUMBER)
    if kind == "WORTH":
        return whole_of(word, MOST_WORTH)
    if kind == "LEVEL":
        return whole_of(word, MOST_LEVEL)
    if kind == "TIME":
        return ticks_of(word)
    if kind == "SIDE":
        return word if is_side(word) else None
    # Names are written just as lamps are.
    return word if is_lamp(word) else None


def ticks_of(word):
    try:
        return time_of(word)
    except NoText:
        return None
