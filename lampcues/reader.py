"""Lists of cues read from texts; all that is no list is refused with the row at which it can be none any more."""

from lampcues.cues import MOST_NUMBER, MOST_PARTS, MOST_WORTH, Cue, Part, is_slot
from lampcues.errors import NoText
from lampcues.times import FIGURES, time_of


class PartDraft:
    def __init__(self, rise, fall, wait):
        self.tells = {}
        self.alone = {}
        self.rise = rise
        self.fall = fall
        self.wait = wait

    def made(self):
        return Part(self.tells, self.alone, self.rise, self.fall, self.wait)


class CueDraft:
    def __init__(self, number, stops, follow):
        self.number = number
        self.parts = []
        self.stops = stops
        self.follow = follow

    def made(self):
        return Cue(self.number, [part.made() for part in self.parts], self.stops, self.follow)


def read(text):
    if not isinstance(text, str):
        raise NoText("a list is read from a text")
    # Splitting the text without signs would tell one row, and it has none.
    rows = [] if text == "" else text.split("\n")
    drafts = []
    for place, row in enumerate(rows):
        words = row.split(" ")
        # The rows' readers don't know where they are, so the place is put in here.
        try:
            take_row(drafts, words)
        except NoText as fault:
            raise NoText("this row can't stand here", place) from fault
    if lacks_part(drafts):
        raise NoText("the last cue has no part", len(rows))
    return [draft.made() for draft in drafts]


def lacks_part(drafts):
    return len(drafts) > 0 and len(drafts[-1].parts) == 0


def take_row(drafts, words):
    if words[0] == "cue":
        take_cue(drafts, words)
    elif len(drafts) == 0:
        raise NoText("a list begins with a cue")
    elif words[0] == "part":
        take_part(drafts[-1], words)
    else:
        take_telling(drafts[-1], words)


def take_cue(drafts, words):
    if lacks_part(drafts):
        raise NoText("the cue ahead has no part")
    if len(words) < 2:
        raise NoText("a cue has a number")
    number = whole_of(words[1], MOST_NUMBER)
    last = drafts[-1].number if len(drafts) > 0 else 0
    if number is None or number <= last:
        raise NoText("a cue's number is from 1 to 10 ** 9 and above the one ahead")
    stops = words[2:3] == ["stop"]
    follow = follow_of(words[3:] if stops else words[2:])
    drafts.append(CueDraft(number, stops, follow))


def follow_of(words):
    if len(words) == 0:
        return None
    if len(words) != 2 or words[0] != "follow":
        raise NoText("a cue's row ends with what follows it")
    return time_of(words[1])


def take_part(draft, words):
    if len(words) != 4 or len(draft.parts) == MOST_PARTS:
        raise NoText("a cue has at most nine parts, each with three times")
    draft.parts.append(PartDraft(time_of(words[1]), time_of(words[2]), time_of(words[3])))


def take_telling(draft, words):
    if len(words) != 4 or len(draft.parts) == 0:
        raise NoText("a part's telling has four words")
    slot = (words[1], words[2])
    worth = whole_of(words[3], MOST_WORTH)
    if not is_slot(slot) or worth is None:
        raise NoText("a telling is of a slot and a worth")
    if any([slot in part.tells or slot in part.alone for part in draft.parts[:-1]]):
        raise NoText("no slot is told by two parts")
    told = told_by(draft.parts[-1], words[0])
    if slot in told:
        raise NoText("no slot is told twice in one way")
    told[slot] = worth


def told_by(part, word):
    if word == "on":
        return part.tells
    if word == "alone":
        return part.alone
    raise NoText("no row begins so")


def whole_of(word, most):
    if not isinstance(word, str) or word == "" or (word.startswith("0") and word != "0"):
        return None
    number = 0
    # Sign by sign, as int takes more signs than these for a whole word and fails on very many figures.
    for sign in word:
        if sign not in FIGURES:
            return None
        number = number * 10 + int(sign)
        if number > most:
            return None
    return number
