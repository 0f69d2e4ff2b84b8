"""Lists of cues written as texts, row by row."""

from lampcues.cues import cue_list
from lampcues.times import time_text


def cue_row(cue):
    words = ["cue", str(cue.number)]
    if cue.stops:
        words.append("stop")
    if cue.follow is not None:
        words.extend(["follow", time_text(cue.follow)])
    return " ".join(words)


def part_row(part):
    return " ".join(["part", time_text(part.rise), time_text(part.fall), time_text(part.wait)])


def telling_rows(word, told):
    return [" ".join([word, slot[0], slot[1], str(told[slot])]) for slot in sorted(told)]


def written(cues):
    rows = []
    for cue in cue_list(cues):
        rows.append(cue_row(cue))
        for part in cue.parts:
            rows.append(part_row(part))
            rows.extend(telling_rows("on", part.tells))
            rows.extend(telling_rows("alone", part.alone))
    return "\n".join(rows)
