"""Dark: lamps that move only while they are dark, at as few cues as can be."""

from lampcues.cues import cue_list, is_bright
from lampcues.errors import MovesBright
from lampcues.fewest import showing
from lampcues.looks import looks_of
from lampcues.names import refuse_lamps


def wishes(cues, lamps):
    own = cue_list(cues)
    refuse_lamps(lamps)
    looks = looks_of(own)
    found = []
    for lamp in sorted(set(lamps)):
        found.extend(wishes_of(own, looks, lamp))
    return found


def wishes_of(cues, looks, lamp):
    found = []
    # The stand ahead of the first cue is dark, so the lamp may move at the first cue already.
    stance = {}
    first = 0
    for place, look in enumerate(looks):
        if is_dark(look, lamp):
            continue
        if stance_of(look, lamp) != stance:
            if first >= place:
                raise MovesBright("the lamp has no cue to move at in the dark", lamp, cues[place].number)
            found.append((cues[first].number, cues[place - 1].number, lamp, cues[place].number))
        stance = stance_of(look, lamp)
        # The cue behind a bright one is faded down to while the lamp may still be seen.
        first = place + 2
    return found


def is_dark(look, lamp):
    return (lamp, "bright") not in look


def is_moving(slot, lamp):
    return slot[0] == lamp and not is_bright(slot)


def stance_of(look, lamp):
    stance = {}
    for slot, worth in look.items():
        if is_moving(slot, lamp):
            stance[slot] = worth
    return stance


# By their last numbers: the first one that no mark serves yet needs one, and its last number serves most of the rest.
def marks(some):
    numbers = []
    apart = []
    for wish in sorted(some, key=last_first):
        if len(numbers) == 0 or wish[0] > numbers[-1]:
            numbers.append(wish[1])
            apart.append((wish[0], wish[1], wish[2], wish[3]))
    return (numbers, apart)


def last_first(wish):
    return (wish[1], wish[0], wish[2], wish[3])


def moved_dark(cues, lamps):
    some = wishes(cues, lamps)
    numbers = marks(some)[0]
    looks = looks_of(cues)
    for lamp in sorted(set(lamps)):
        turns = turns_of(some, numbers, lamp)
        stances = stances_of(cues, looks, lamp, turns)
        looks = [with_stance(look, lamp, stances[place]) for place, look in enumerate(looks)]
    return showing(cues, looks)


# By the number of the cue that a wish is for: the number from which on its stance is taken.
def turns_of(some, numbers, lamp):
    turns = {}
    for wish in some:
        if wish[2] == lamp:
            turns[wish[3]] = min([number for number in numbers if wish[0] <= number <= wish[1]])
    return turns


def stances_of(cues, looks, lamp, turns):
    stances = []
    stance = {}
    for place in range(len(looks)):
        coming = next_seen(looks, lamp, place)
        if coming is not None:
            number = cues[coming].number
            # Without a wish the stances are alike, so it is no matter that it is taken at that cue alone.
            if cues[place].number >= turns.get(number, number):
                stance = stance_of(looks[coming], lamp)
        stances.append(stance)
    return stances


# The place of the first cue from here on at which the lamp is seen, or None.
def next_seen(looks, lamp, start):
    for place in range(start, len(looks)):
        if not is_dark(looks[place], lamp):
            return place
    return None


def with_stance(look, lamp, stance):
    new = dict(stance)
    for slot, worth in look.items():
        if not is_moving(slot, lamp):
            new[slot] = worth
    return new
