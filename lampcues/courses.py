"""Courses: where a thing stands that was told fades."""


def stand(start, end, length, top, bottom=1):
    if top < 0:
        return start
    if top >= bottom * length:
        return end
    steps = abs(end - start) * top // (bottom * length)
    if end > start:
        return start + steps
    return start - steps


class Fade:
    def __init__(self, out, start, end, length):
        self.out = out
        self.start = start
        self.end = end
        self.length = length


class Course:
    def __init__(self, worth=0):
        self.worth = worth
        # Each sets out behind the one ahead of it, as tell forgets all others.
        self.fades = []

    def tell(self, now, wait, rise, fall, end):
        out = now + wait
        while len(self.fades) > 0 and self.fades[-1].out >= out:
            self.fades.pop()
        start = self.at(out)
        length = rise if end > start else fall
        self.fades.append(Fade(out, start, end, length))

    def at(self, top, bottom=1):
        # From the last one back: what is asked mostly lies near the end.
        for fade in reversed(self.fades):
            gone = top - fade.out * bottom
            if gone >= 0:
                return stand(fade.start, fade.end, fade.length, gone, bottom)
        return self.worth

    def aim(self):
        if len(self.fades) == 0:
            return self.worth
        return self.fades[-1].end

    def still(self):
        if len(self.fades) == 0:
            return 0
        return self.fades[-1].out + self.fades[-1].length
