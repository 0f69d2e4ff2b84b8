"""The board: faders laid over a look, and hands that take all down."""

from lampcues.cues import has_slots_as_keys, is_bright, is_side, is_worth, refuse_slot, refuse_worth
from lampcues.errors import NoName, NoSlot, NoWorth
from lampcues.mixing import amount, lowered, refuse_level
from lampcues.names import refuse_lamps, refuse_name

# The look's place among the faders. It goes ahead of all their names.
LOOK = ""


class Board:
    def __init__(self):
        # By the faders' names: what each holds, and its level. The levels stand in the order of the last touches.
        self.filled = {}
        self.levels = {}
        self.groups = {}
        self.downs = {}
        # By hand and lamp.
        self.spared = {}

    def fill(self, fader, slot, worth):
        refuse_name(fader)
        refuse_slot(slot)
        refuse_worth(worth)
        if fader not in self.filled:
            self.filled[fader] = {}
        self.filled[fader][slot] = worth

    def group(self, name, lamps):
        refuse_name(name)
        refuse_lamps(lamps)
        self.groups[name] = list(lamps)

    def fill_group(self, fader, name, side, worth):
        refuse_name(fader)
        refuse_name(name)
        if name not in self.groups:
            raise NoName("no group of this name was told")
        if not is_side(side):
            raise NoSlot("this is no side")
        # Asked here too, as the group may be without lamps.
        refuse_worth(worth)
        for lamp in self.groups[name]:
            self.fill(fader, (lamp, side), worth)

    def move(self, fader, level):
        refuse_name(fader)
        refuse_level(level)
        # A key that is there already would keep its place.
        self.levels.pop(fader, None)
        self.levels[fader] = level

    def down(self, hand, level):
        refuse_name(hand)
        refuse_level(level)
        self.downs[hand] = level

    def spare(self, hand, lamp):
        refuse_name(hand)
        refuse_name(lamp)
        self.spared[(hand, lamp)] = True

    def mixed(self, look):
        refuse_look(look)
        mix = {}
        for slot in self.slots_with(look):
            worth = self.number_by(self.winning(look, slot), look, slot)
            if is_bright(slot):
                worth = lowered(worth, self.down_on(slot[0]))
            if worth > 0:
                mix[slot] = worth
        return mix

    def winner(self, look, slot):
        refuse_look(look)
        refuse_slot(slot)
        return self.winning(look, slot)

    def winning(self, look, slot):
        if is_bright(slot):
            return self.brightest(look, slot)
        for fader in reversed(list(self.levels)):
            if self.levels[fader] > 0 and slot in self.filled.get(fader, {}):
                return fader
        return LOOK

    def brightest(self, look, slot):
        best = LOOK
        for fader in sorted(self.filled):
            # Only a greater number wins: of alike ones the look stays, or the first by name.
            if self.number_by(fader, look, slot) > self.number_by(best, look, slot):
                best = fader
        return best

    def number_by(self, fader, look, slot):
        if fader == LOOK:
            return look.get(slot, 0)
        worth = self.filled[fader].get(slot, 0)
        return amount(worth, self.levels.get(fader, 0)) if is_bright(slot) else worth

    def down_on(self, lamp):
        return max([down for hand, down in self.downs.items() if (hand, lamp) not in self.spared], default=0)

    def slots_with(self, look):
        slots = list(look)
        for told in self.filled.values():
            slots.extend(list(told))
        return sorted(set(slots))


def refuse_look(thing):
    if not has_slots_as_keys(thing):
        raise NoSlot("a look is a dict from slots")
    if not all([is_worth(worth) and worth > 0 for worth in thing.values()]):
        raise NoWorth("the worths of a look are whole numbers from 1 to 10 ** 9")
