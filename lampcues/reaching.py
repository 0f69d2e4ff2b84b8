"""Reaching: how far a telling goes on, and what two lists show otherwise."""

from lampcues.cues import cue_list, refuse_slot
from lampcues.looks import needed_cue, shown


def reach(cues, number, slot):
    needed_cue(cues, number)
    refuse_slot(slot)
    numbers = []
    for cue in cues:
        if cue.number > number and settles(cue, slot):
            break
        if cue.number >= number and not tells_alone(cue, slot):
            numbers.append(cue.number)
    return numbers


# Whether the cue puts the slot somewhere of its own, whatever was carried to it.
def settles(cue, slot):
    return cue.stops or any([slot in part.tells for part in cue.parts])


def tells_alone(cue, slot):
    return any([slot in part.alone for part in cue.parts])


def differences(old, new):
    numbers = [cue.number for cue in cue_list(old) + cue_list(new)]
    rows = []
    for number in sorted(set(numbers)):
        before = shown(old, number)
        behind = shown(new, number)
        for slot in sorted(set(before) | set(behind)):
            if before.get(slot, 0) != behind.get(slot, 0):
                rows.append((number, slot, before.get(slot, 0), behind.get(slot, 0)))
    return rows
