"""The plain telling: where all slots stand at a moment, told from the list's beginning through all deeds."""

from lampcues.courses import Course
from lampcues.looks import cue_at, shown
from lampcues.marches import rows_of

BACK_TICKS = 1000


# A row as the courses of all slots need it, so that its look and its cue are found once.
class Step:
    def __init__(self, row, look):
        self.clock = row[0]
        self.look = look
        self.cue = cue_at(row[1], row[2])
        self.word = row[3]


def steps_of(rows):
    steps = []
    cues = []
    looks = {}
    for row in rows:
        # Looks are good as long as the list is the same; the rows' lists are copies with the very same cues.
        if row[1] != cues:
            cues = row[1]
            looks = {}
        if row[2] not in looks:
            looks[row[2]] = shown(cues, row[2])
        steps.append(Step(row, looks[row[2]]))
    return steps


def tell_step(course, slot, step):
    worth = step.look.get(slot, 0)
    if worth == course.aim():
        return
    if step.word == "go":
        part = step.cue.part_of(slot)
        course.tell(step.clock, part.wait, part.rise, part.fall, worth)
    elif step.word == "back":
        course.tell(step.clock, 0, BACK_TICKS, BACK_TICKS, worth)
    else:
        course.tell(step.clock, 0, 0, 0, worth)


def course_of(rows, slot):
    course = Course()
    for step in steps_of(rows):
        tell_step(course, slot, step)
    return course


def tell_rows(courses, rows):
    for step in steps_of(rows):
        # The rows ahead asked for no other step of such a slot than 0, so its course may begin here.
        for slot in step.look:
            if slot not in courses:
                courses[slot] = Course()
        for slot, course in courses.items():
            tell_step(course, slot, step)


def look_at(courses, top, bottom):
    look = {}
    for slot, course in courses.items():
        worth = course.at(top, bottom)
        if worth > 0:
            look[slot] = worth
    return look


def told(cues, deeds, top, bottom=1):
    telling = rows_of(cues, deeds, top, bottom)
    courses = {}
    tell_rows(courses, telling[0])
    return look_at(courses, telling[1], telling[2])
