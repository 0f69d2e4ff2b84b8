"""The refusals: one class for each, so that whoever asks can tell them apart."""


class LampError(ValueError):
    pass


class NoText(LampError):
    def __init__(self, words, row=0):
        LampError.__init__(self, words)
        self.row = row


class NoTime(LampError):
    pass


class NoSlot(LampError):
    pass


class NoWorth(LampError):
    pass


class NoPart(LampError):
    pass


class NoCue(LampError):
    pass


class NoList(LampError):
    pass


class Late(LampError):
    pass


class NoName(LampError):
    pass


class MovesBright(LampError):
    def __init__(self, words, lamp, number):
        LampError.__init__(self, words)
        self.lamp = lamp
        self.number = number


class NoRow(LampError):
    pass
