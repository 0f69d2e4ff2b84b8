"""Times: whole numbers of ticks, and how they are written in seconds."""

from lampcues.errors import NoText, NoTime
from lampcues.wholes import is_whole

MOST_TICKS = 1000000000
TICKS_A_SECOND = 1000
PLACES = 3
# The figures of MOST_TICKS: no time has more, all its places written out.
MOST_FIGURES = 10
FIGURES = "0123456789"


def is_time(thing):
    return is_whole(thing) and 0 <= thing <= MOST_TICKS


def time_text(ticks):
    # The words don't show what was handed in: Python won't write very great numbers.
    if not is_time(ticks):
        raise NoTime("a time is a whole number of ticks from 0 to 10 ** 9")
    seconds = str(ticks // TICKS_A_SECOND)
    places = str(ticks % TICKS_A_SECOND).zfill(PLACES).rstrip("0")
    if places == "":
        return seconds
    return seconds + "." + places


def time_of(text):
    if isinstance(text, str):
        ticks = loosely_read(text)
        # Writing it again is the one test that lets through just what is written.
        if is_time(ticks) and time_text(ticks) == text:
            return ticks
    raise NoText("a time is written in seconds, with at most three figures behind a point")


def loosely_read(text):
    halves = text.partition(".")
    figures = halves[0] + halves[2].ljust(PLACES, "0")
    # Asked ahead of int, which fails on too many figures and takes more signs than these.
    if len(figures) > MOST_FIGURES or not all([sign in FIGURES for sign in figures]):
        return None
    return int(figures)
