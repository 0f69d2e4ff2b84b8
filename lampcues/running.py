"""The run: goes through a list deed by deed, and stands at each moment where the plain telling puts it."""

from lampcues.courses import Course
from lampcues.errors import Late, NoCue
from lampcues.looks import above
from lampcues.marches import Walk, forked
from lampcues.telling import look_at, tell_rows


class Run:
    def __init__(self, cues):
        # Both as of the last deed: what comes behind it may still be changed by a deed, so it is told anew each time.
        self.walk = Walk(cues)
        self.courses = {}
        self.last = None

    def go(self, tick):
        walk = self.walked_to(tick)
        refuse_undone(walk.go(tick))
        return self.take(tick, walk)

    def back(self, tick):
        walk = self.walked_to(tick)
        refuse_undone(walk.back(tick))
        return self.take(tick, walk)

    def goto(self, tick, number):
        walk = self.walked_to(tick)
        refuse_undone(walk.goto(tick, number))
        return self.take(tick, walk)

    def stop(self, tick):
        walk = self.walked_to(tick)
        walk.stop(tick)
        return self.take(tick, walk)

    def on(self, tick):
        walk = self.walked_to(tick)
        walk.on(tick)
        return self.take(tick, walk)

    def change(self, tick, cues):
        walk = self.walked_to(tick)
        walk.change(tick, cues)
        return self.take(tick, walk)

    def at(self, top, bottom=1):
        walk = self.walked_to(top, bottom)
        return look_at(self.courses_along(walk), walk.clock_top(top, bottom), bottom)

    def number_at(self, top, bottom=1):
        return self.walked_to(top, bottom).number

    def is_still(self, top, bottom=1):
        walk = self.walked_to(top, bottom)
        if walk.due is not None and above(walk.cues, walk.number) > 0:
            return False
        clock = walk.clock_top(top, bottom)
        return all([course.still() * bottom <= clock for course in self.courses_along(walk).values()])

    def walked_to(self, top, bottom=1):
        if self.last is not None and top < self.last * bottom:
            raise Late("a run tells and takes nothing ahead of its last deed")
        walk = forked(self.walk)
        walk.come_to(top, bottom)
        return walk

    def courses_along(self, walk):
        courses = {}
        for slot, course in self.courses.items():
            courses[slot] = copied(course)
        tell_rows(courses, walk.trail)
        return courses

    def take(self, tick, walk):
        # What comes in no time comes now: no deed that may still be taken could come ahead of it.
        walk.come_to(tick)
        tell_rows(self.courses, walk.trail)
        self.walk = walk
        self.last = tick
        return walk.number


def refuse_undone(done):
    if not done:
        raise NoCue("there is no cue to come to")


def copied(course):
    other = Course(course.worth)
    other.fades = list(course.fades)
    return other
