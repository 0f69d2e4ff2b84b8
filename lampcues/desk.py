"""The desk: hears rows of hands in any weaving, and shows at each moment what all rows up to it make."""

from lampcues.board import Board
from lampcues.changes import put_in, stopped, taken_out, told_alone, told_on, untold
from lampcues.cues import Cue, Part
from lampcues.errors import Late, NoCue
from lampcues.marches import Walk, do_deed
from lampcues.reader import read
from lampcues.rows import row_of
from lampcues.telling import look_at, tell_rows
from lampcues.writer import written

ON_THE_WAY = ("go", "back", "goto", "stop", "on")
ON_THE_BOARD = ("fill", "move", "down", "spare")


class Desk:
    def __init__(self, text=""):
        self.cues = read(text)
        self.heard = []
        # By hand, the tick of its last row.
        self.ticks = {}

    def hear(self, row):
        heard = Heard(row)
        if heard.tick < self.ticks.get(heard.hand, 0):
            raise Late("a hand's rows are told by rising ticks")
        self.ticks[heard.hand] = heard.tick
        self.heard.append(heard)

    def rows(self):
        return [heard.row for heard in in_order(self.heard)]

    def picture(self, top, bottom=1):
        play = self.played(top, bottom)
        courses = {}
        tell_rows(courses, play.walk.trail)
        return play.board.mixed(look_at(courses, play.walk.clock_top(top, bottom), bottom))

    def number_at(self, top, bottom=1):
        return self.played(top, bottom).walk.number

    def list_at(self, top, bottom=1):
        return written(self.played(top, bottom).walk.cues)

    # All from the beginning, each time: a row that goes ahead of others may still be heard behind them.
    def played(self, top, bottom):
        play = Play(self.cues)
        for heard in in_order(self.heard):
            if heard.tick * bottom > top:
                break
            do_row(play, heard)
        play.walk.come_to(top, bottom)
        return play


class Heard:
    def __init__(self, row):
        told = row_of(row)
        self.row = row
        self.hand = told[0]
        self.tick = told[1]
        self.word = told[2]
        self.things = told[3]


class Play:
    def __init__(self, cues):
        self.walk = Walk(cues)
        self.board = Board()


# Of one tick and hand they stay as they were heard.
def in_order(some):
    return sorted(some, key=tick_and_hand)


def tick_and_hand(heard):
    return (heard.tick, heard.hand)


def do_row(play, heard):
    if heard.word in ON_THE_WAY:
        do_deed(play.walk, tuple([heard.tick, heard.word] + heard.things))
    elif heard.word in ON_THE_BOARD:
        do_on_board(play.board, heard.hand, heard.word, heard.things)
    else:
        # What follows by then is there ahead of the change, as with all deeds.
        play.walk.come_to(heard.tick)
        try:
            cues = changed(play.walk.cues, heard.word, heard.things)
        except NoCue:
            return
        play.walk.change(heard.tick, cues)


def do_on_board(board, hand, word, things):
    if word == "fill":
        board.fill(things[0], (things[1], things[2]), things[3])
    elif word == "move":
        board.move(things[0], things[1])
    elif word == "down":
        board.down(hand, things[0])
    elif word == "spare":
        board.spare(hand, things[0])


def changed(cues, word, things):
    number = things[0]
    if word == "put":
        return put_in(cues, new_cue(things))
    if word == "out":
        return taken_out(cues, number)
    if word == "keep":
        return taken_out(cues, number, True)
    if word == "tell":
        return told_on(cues, number, (things[1], things[2]), things[3])
    if word == "alone":
        return told_alone(cues, number, (things[1], things[2]), things[3])
    if word == "untell":
        return untold(cues, number, (things[1], things[2]))
    return stopped(cues, number, word == "block")


def new_cue(things):
    part = Part({}, {}, things[1], things[2], things[3])
    return Cue(things[0], [part], False, things[4] if len(things) > 4 else None)
