"""Fewest: lists that show given looks at their cues by as few tellings as can be."""

from lampcues.changes import place_to_tell, retold
from lampcues.cues import Cue, cue_list
from lampcues.looks import looks_of


def weight(cues):
    tellings = 0
    for cue in cue_list(cues):
        if cue.stops:
            tellings += 1
        for part in cue.parts:
            tellings += len(part.tells) + len(part.alone)
    return tellings


def fewest(cues):
    return showing(cues, looks_of(cues))


def showing(cues, looks):
    own = cue_list(cues)
    columns = columns_of(looks)
    starts = best_starts(list(columns.values()), len(own))
    tells = [{} for cue in own]
    alone = [{} for cue in own]
    for slot, column in columns.items():
        tell_column(tells, alone, slot, column, starts)
    return [told_cue(cue, place in starts[1:], tells[place], alone[place]) for place, cue in enumerate(own)]


# For each slot the worths that it is to show, cue by cue.
def columns_of(looks):
    columns = {}
    for look in looks:
        for slot in look:
            if slot not in columns:
                columns[slot] = [other.get(slot, 0) for other in looks]
    return columns


# Where nothing is carried: at the first cue and at each that is to stop. What is told from there on to the next such
# place hangs on nothing ahead, so the best ways from all later places tell the best way from this one.
def best_starts(columns, count):
    best = [0] * count
    # One more, for the list without cues.
    onward = [count] * (count + 1)
    for start in range(count - 1, -1, -1):
        needed = tellings_from(columns, start, count)
        # From the end back, so that of equal ones that without a stop is taken.
        best[start] = needed[-1]
        for end in range(count - 1, start, -1):
            tellings = needed[end - start - 1] + 1 + best[end]
            if tellings < best[start]:
                best[start] = tellings
                onward[start] = end
    starts = [0]
    while onward[starts[-1]] < count:
        starts.append(onward[starts[-1]])
    return starts


# How many tellings are needed from the start on, where nothing is carried there: up to each place and with it.
def tellings_from(columns, start, count):
    needed = [0] * (count - start)
    for column in columns:
        tellings = 0
        # All that may be carried here without more tellings than these.
        held = {0: True}
        for place in range(start, count):
            worth = column[place]
            if worth in held:
                held = {worth: True}
            else:
                # Told on it is carried instead, told alone all stays: which it is, is open till one is met again.
                held[worth] = True
                tellings += 1
            needed[place - start] += tellings
    return needed


def tell_column(tells, alone, slot, column, starts):
    held = {}
    for place, worth in enumerate(column):
        if place in starts:
            held = {0: place - 1}
        if worth in held:
            # It was told there and is carried up to here, so what was told between is not carried on.
            for between in range(held[worth] + 1, place):
                alone[between][slot] = tells[between].pop(slot)
            held = {worth: place}
        else:
            tells[place][slot] = worth
            held[worth] = place


def told_cue(cue, stops, tells, alone):
    tells_by = [{} for part in cue.parts]
    alone_by = [{} for part in cue.parts]
    for slot, worth in tells.items():
        tells_by[place_to_tell(cue, slot, worth, 0)][slot] = worth
    for slot, worth in alone.items():
        alone_by[place_to_tell(cue, slot, worth, 0)][slot] = worth
    parts = [retold(part, tells_by[place], alone_by[place]) for place, part in enumerate(cue.parts)]
    return Cue(cue.number, parts, stops, cue.follow)
