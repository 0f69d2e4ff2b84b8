"""Marches: the way that deeds lead through a list of cues, told row by row."""

from lampcues.cues import cue_list
from lampcues.errors import Late
from lampcues.looks import above, below, cue_at
from lampcues.wholes import is_whole


class Walk:
    def __init__(self, cues):
        self.cues = cue_list(cues)
        self.number = 0
        # While the clock goes it shows the tick less this; while it is stopped it shows what is held.
        self.lag = 0
        self.held = None
        # What the clock shows as a follow-on comes, or None.
        self.due = None
        self.trail = []

    def clock_top(self, top, bottom=1):
        if self.held is None:
            return top - self.lag * bottom
        return self.held * bottom

    def note(self, clock, word):
        self.trail.append((clock, list(self.cues), self.number, word))

    def come_to(self, top, bottom=1):
        clock = self.clock_top(top, bottom)
        while self.due is not None and self.due * bottom <= clock:
            number = above(self.cues, self.number)
            if number == 0:
                self.due = None
            else:
                # What is due comes as the clock shows just that, however late it is asked for.
                self.arrive(self.due, number)

    def arrive(self, clock, number):
        follow = cue_at(self.cues, number).follow
        self.number = number
        self.due = None if follow is None else clock + follow
        self.note(clock, "go")

    def go(self, tick):
        return self.goto(tick, above(self.cues, self.number))

    def goto(self, tick, number):
        if not has_cue(self.cues, number):
            return False
        self.on(tick)
        self.arrive(self.clock_top(tick), number)
        return True

    def back(self, tick):
        if self.number == 0:
            return False
        self.on(tick)
        self.number = below(self.cues, self.number)
        self.due = None
        self.note(self.clock_top(tick), "back")
        return True

    def stop(self, tick):
        self.held = self.clock_top(tick)

    def on(self, tick):
        self.lag = tick - self.clock_top(tick)
        self.held = None

    def change(self, tick, cues):
        self.cues = cue_list(cues)
        self.note(self.clock_top(tick), "list")


def has_cue(cues, number):
    # Its kind is asked first: True is alike to 1, and things of other kinds may fail as they are compared.
    return is_whole(number) and any([cue.number == number for cue in cues])


# For whoever wants to see what would come: the walk handed in stays where it is, and only new rows are noted.
def forked(walk):
    other = Walk(walk.cues)
    other.number = walk.number
    other.lag = walk.lag
    other.held = walk.held
    other.due = walk.due
    return other


def do_deed(walk, deed):
    tick = deed[0]
    word = deed[1]
    walk.come_to(tick)
    if word == "go":
        walk.go(tick)
    elif word == "back":
        walk.back(tick)
    elif word == "goto":
        walk.goto(tick, deed[2])
    elif word == "stop":
        walk.stop(tick)
    elif word == "on":
        walk.on(tick)
    elif word == "list":
        walk.change(tick, deed[2])


def refuse_falling(deeds):
    for place in range(1, len(deeds)):
        if deeds[place][0] < deeds[place - 1][0]:
            raise Late("the ticks of deeds never fall")


def rows_of(cues, deeds, top, bottom=1):
    walk = Walk(cues)
    refuse_falling(deeds)
    walk.note(0, "list")
    for deed in deeds:
        if deed[0] * bottom > top:
            break
        do_deed(walk, deed)
    walk.come_to(top, bottom)
    return (walk.trail, walk.clock_top(top, bottom), bottom)
