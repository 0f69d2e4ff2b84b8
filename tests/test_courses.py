import itertools
import unittest
from fractions import Fraction

from helper import PlainCourse, evenly
from lampcues.courses import Course, stand

GREAT = 10 ** 9
LONGEST = 10 ** 30 - 1


class Standing(unittest.TestCase):
    def test_rising(self):
        self.assertEqual([stand(10, 20, 5, top) for top in range(-2, 8)], [10, 10, 10, 12, 14, 16, 18, 20, 20, 20])

    def test_falling(self):
        self.assertEqual([stand(20, 10, 5, top) for top in range(-2, 8)], [20, 20, 20, 18, 16, 14, 12, 10, 10, 10])

    def test_only_whole_steps_are_gone(self):
        self.assertEqual([stand(0, 3, 10, top) for top in range(11)], [0, 0, 0, 0, 1, 1, 1, 2, 2, 2, 3])
        self.assertEqual([stand(3, 0, 10, top) for top in range(11)], [3, 3, 3, 3, 2, 2, 2, 1, 1, 1, 0])

    def test_one_step_is_gone_at_the_end_alone(self):
        self.assertEqual(stand(7, 8, 1000, 999), 7)
        self.assertEqual(stand(7, 8, 1000, 1000), 8)
        self.assertEqual(stand(8, 7, 1000, 999), 8)
        self.assertEqual(stand(8, 7, 1000, 1000), 7)

    def test_below_setting_out(self):
        for top in (-1, -5, -1000, -LONGEST):
            for bottom in (1, 2, 7, LONGEST):
                self.assertEqual(stand(4, 9, 10, top, bottom), 4)
                self.assertEqual(stand(9, 4, 10, top, bottom), 9)

    def test_length_nought(self):
        for start, end in ((4, 9), (9, 4), (0, GREAT), (GREAT, 0)):
            self.assertEqual(stand(start, end, 0, -1), start)
            self.assertEqual(stand(start, end, 0, -1, 1000), start)
            for top in (0, 1, 1000, LONGEST):
                self.assertEqual(stand(start, end, 0, top), end)
                self.assertEqual(stand(start, end, 0, top, 3), end)

    def test_alike(self):
        for step in (0, 1, 500, GREAT):
            for length in (0, 1, 10):
                for top in (-3, 0, 1, 5, 9, 10, 11):
                    self.assertEqual(stand(step, step, length, top), step)
                    self.assertEqual(stand(step, step, length, top, 2), step)

    def test_bottoms(self):
        self.assertEqual(stand(0, 100, 3, 3, 2), 50)
        self.assertEqual(stand(0, 100, 3, 6, 4), 50)
        self.assertEqual(stand(100, 0, 3, 3, 2), 50)
        self.assertEqual(stand(0, 10, 1, 99, 100), 9)
        self.assertEqual(stand(0, 10, 1, 100, 100), 10)
        self.assertEqual(stand(10, 0, 1, 99, 100), 1)

    def test_around_the_length_in_parts(self):
        self.assertEqual(stand(0, 1000, 10, 69, 7), 985)
        self.assertEqual(stand(0, 1000, 10, 70, 7), 1000)
        self.assertEqual(stand(0, 1000, 10, 71, 7), 1000)

    def test_bottom_left_out_and_by_name(self):
        self.assertEqual(stand(0, 100, 10, 5), stand(0, 100, 10, 5, 1))
        self.assertEqual(stand(0, 100, 10, 5, bottom=2), 25)
        self.assertEqual(stand(start=0, end=100, length=10, top=5, bottom=5), 10)

    def test_great_numbers(self):
        self.assertEqual(stand(0, GREAT, GREAT, GREAT - 1), GREAT - 1)
        self.assertEqual(stand(GREAT, 0, GREAT, GREAT - 1), 1)
        self.assertEqual(stand(0, GREAT, GREAT, LONGEST), GREAT)
        self.assertEqual(stand(0, GREAT, GREAT, LONGEST, LONGEST), 1)
        self.assertEqual(stand(0, GREAT, GREAT, LONGEST - 1, LONGEST), 0)
        self.assertEqual(stand(0, GREAT, 1, LONGEST - 1, LONGEST), GREAT - 1)
        self.assertEqual(stand(GREAT, 0, 1, LONGEST - 1, LONGEST), 1)
        # A float would come to GREAT here.
        self.assertEqual(stand(0, GREAT, 3, 3 * 10 ** 29 - 1, 10 ** 29), GREAT - 1)

    def test_against_fractions(self):
        steps = (0, 1, 2, 7, 10)
        for start, end, length in itertools.product(steps, steps, (0, 1, 2, 3, 7)):
            for top, bottom in itertools.product(range(-3, 25), (1, 2, 3, 4)):
                told = stand(start, end, length, top, bottom)
                self.assertEqual(told, evenly(start, end, length, Fraction(top, bottom)))
                self.assertEqual(told, stand(start, end, length, 2 * top, 2 * bottom))


class NoFade(unittest.TestCase):
    def test_first_step(self):
        for course, first in ((Course(), 0), (Course(0), 0), (Course(70), 70), (Course(worth=GREAT), GREAT)):
            self.assertEqual(course.at(0), first)
            self.assertEqual(course.at(10 ** 12), first)
            self.assertEqual(course.at(1, 3), first)
            self.assertEqual(course.aim(), first)
            self.assertEqual(course.still(), 0)


class OneFade(unittest.TestCase):
    def test_telling_tells_nothing(self):
        self.assertIsNone(Course().tell(0, 0, 10, 10, 5))

    def test_rise(self):
        course = Course(10)
        course.tell(100, 50, 20, 1000, 30)
        self.assertEqual([course.at(top) for top in (0, 100, 149, 150, 151, 160, 169, 170, 171, 10 ** 12)],
                         [10, 10, 10, 10, 11, 20, 29, 30, 30, 30])
        self.assertEqual((course.aim(), course.still()), (30, 170))

    def test_fall(self):
        course = Course(30)
        course.tell(100, 50, 1000, 20, 10)
        self.assertEqual([course.at(top) for top in (0, 149, 150, 151, 160, 169, 170, 171)],
                         [30, 30, 30, 29, 20, 11, 10, 10])
        self.assertEqual((course.aim(), course.still()), (10, 170))

    def test_alike_goes_by_the_fall(self):
        course = Course(5)
        course.tell(10, 1, 1000, 7, 5)
        self.assertEqual(course.still(), 18)
        self.assertEqual([course.at(top) for top in (0, 11, 15, 18, 2000)], [5] * 5)

    def test_parts_of_a_tick(self):
        course = Course()
        course.tell(1, 0, 2, 2, 100)
        self.assertEqual(course.at(1, 2), 0)
        self.assertEqual(course.at(3, 2), 25)
        self.assertEqual(course.at(6, 4), 25)
        self.assertEqual(course.at(5, bottom=2), 75)
        self.assertEqual(course.at(top=5, bottom=2), 75)
        self.assertEqual(course.at(2), course.at(2, 1))
        self.assertEqual(course.at(299, 100), 99)
        self.assertEqual(course.at(300, 100), 100)

    def test_just_ahead_of_setting_out_with_no_length(self):
        course = Course(3)
        course.tell(10, 0, 0, 0, 8)
        self.assertEqual(course.at(10 ** 10 - 1, 10 ** 9), 3)
        self.assertEqual(course.at(10), 8)

    def test_noughts_in_all_places(self):
        course = Course(0)
        course.tell(0, 0, 0, 0, 0)
        self.assertEqual((course.at(0), course.aim(), course.still()), (0, 0, 0))
        course = Course(9)
        course.tell(0, 0, 0, 0, 0)
        self.assertEqual((course.at(0), course.aim(), course.still()), (0, 0, 0))
        course = Course(0)
        course.tell(0, 0, 0, 0, 9)
        self.assertEqual((course.at(0), course.aim(), course.still()), (9, 9, 0))

    def test_by_names(self):
        course = Course()
        course.tell(now=5, wait=1, rise=4, fall=9, end=8)
        self.assertEqual((course.at(8), course.aim(), course.still()), (4, 8, 10))

    def test_great_numbers(self):
        course = Course()
        course.tell(10 ** 12 - 10, GREAT, GREAT, 0, GREAT)
        out = 10 ** 12 - 10 + GREAT
        self.assertEqual(course.at(10 ** 12), 0)
        self.assertEqual(course.at(out + 7), 7)
        self.assertEqual(course.at((out + 7) * GREAT - 1, GREAT), 6)
        self.assertEqual(course.still(), out + GREAT)


class TwoFades(unittest.TestCase):
    def course(self):
        course = Course()
        course.tell(0, 10, 100, 100, 100)
        return course

    def test_second_sets_out_behind(self):
        course = self.course()
        course.tell(0, 60, 10, 25, 0)
        self.assertEqual([course.at(top) for top in (10, 40, 59, 60, 70, 85, 200)], [0, 30, 49, 50, 30, 0, 0])
        self.assertEqual((course.aim(), course.still()), (0, 85))

    def test_second_sets_out_at_the_same_tick(self):
        course = self.course()
        course.tell(4, 6, 10, 7, 20)
        self.assertEqual([course.at(top) for top in (9, 10, 15, 20, 110)], [0, 0, 10, 20, 20])
        self.assertEqual((course.aim(), course.still()), (20, 20))

    def test_second_sets_out_ahead(self):
        course = self.course()
        course.tell(5, 0, 10, 7, 20)
        self.assertEqual([course.at(top) for top in (5, 10, 15, 110)], [0, 10, 20, 20])
        self.assertEqual((course.aim(), course.still()), (20, 15))

    def test_second_sets_out_a_tick_later(self):
        course = self.course()
        course.tell(5, 6, 10, 7, 21)
        self.assertEqual([course.at(top) for top in (10, 11, 16, 21)], [0, 1, 11, 21])

    def test_second_sets_out_behind_the_first_one_s_end(self):
        course = self.course()
        course.tell(300, 0, 10, 20, 0)
        self.assertEqual([course.at(top) for top in (60, 110, 299, 300, 310, 320)], [50, 100, 100, 100, 50, 0])

    def test_rise_or_fall_by_where_it_stands_as_it_sets_out(self):
        # It stands at 20 as this is told, but at 50 as it sets out: that is above 40.
        course = self.course()
        course.tell(30, 30, 1000, 10, 40)
        self.assertEqual(course.still(), 70)
        self.assertEqual(course.at(65), 45)
        course = self.course()
        course.tell(30, 30, 10, 1000, 51)
        self.assertEqual(course.still(), 70)

    def test_alike_as_it_sets_out_goes_by_the_fall(self):
        course = self.course()
        course.tell(30, 30, 1000, 12, 50)
        self.assertEqual(course.still(), 72)
        self.assertEqual([course.at(top) for top in (59, 60, 66, 72, 300)], [49, 50, 50, 50, 50])

    def test_waiting_fade_leaves_the_one_ahead_going(self):
        course = self.course()
        course.tell(20, 1000, 0, 0, 7)
        self.assertEqual([course.at(top) for top in (60, 110, 1019, 1020)], [50, 100, 100, 7])
        self.assertEqual((course.aim(), course.still()), (7, 1020))

    def test_aim_and_still_are_the_last_told_one_s(self):
        course = self.course()
        self.assertEqual((course.aim(), course.still()), (100, 110))
        course.tell(20, 0, 5, 5, 30)
        self.assertEqual((course.aim(), course.still()), (30, 25))


class ManyFades(unittest.TestCase):
    def test_one_forgets_several(self):
        course = Course()
        for place in range(10):
            course.tell(0, 100 * place, 0, 0, place + 1)
        self.assertEqual(course.at(1000), 10)
        course.tell(0, 350, 0, 0, 77)
        self.assertEqual([course.at(top) for top in (0, 100, 299, 300, 349, 350, 400, 1000)],
                         [1, 2, 3, 4, 4, 77, 77, 77])
        course.tell(0, 0, 10, 0, 100)
        self.assertEqual([course.at(top) for top in (0, 5, 10, 350)], [0, 50, 100, 100])

    def test_what_is_forgotten_does_not_come_again(self):
        course = Course()
        course.tell(0, 500, 0, 0, 5)
        course.tell(0, 100, 0, 0, 1)
        course.tell(0, 800, 0, 0, 8)
        self.assertEqual([course.at(top) for top in (99, 100, 500, 799, 800)], [0, 1, 1, 1, 8])

    def test_a_past_stays_for_fades_told_later_and_later(self):
        course = Course(3)
        moments = [(top, bottom) for top in range(0, 600, 7) for bottom in (1, 2, 3)]
        for place in range(60):
            now = place * 10
            past = [(moment, course.at(moment[0], moment[1])) for moment in moments if moment[0] < now * moment[1]]
            course.tell(now, place % 4, 3 * (place % 7), 5 * (place % 3), place * 37 % 101)
            for moment, step in past:
                self.assertEqual(course.at(moment[0], moment[1]), step)

    def test_asking_changes_nothing(self):
        asked = Course(2)
        silent = Course(2)
        for place in range(20):
            for course in (asked, silent):
                course.tell(place * 13 % 50, place % 3, 9, 4, place * 7 % 11)
            for top in (1000, 0, 30, 10 ** 12):
                asked.at(top)
                asked.at(top, 7)
            asked.aim()
            asked.still()
            self.assertEqual(asked.at(40), asked.at(40))
        for top in range(300):
            self.assertEqual(asked.at(top, 3), silent.at(top, 3))
        self.assertEqual((asked.aim(), asked.still()), (silent.aim(), silent.still()))

    def test_two_courses_do_not_touch(self):
        one = Course()
        other = Course()
        one.tell(0, 0, 0, 0, 9)
        self.assertEqual((other.at(50), other.aim(), other.still()), (0, 0, 0))
        other.tell(10, 0, 0, 20, 4)
        self.assertEqual((one.at(50), one.aim(), one.still()), (9, 9, 0))
        self.assertEqual((other.at(50), other.aim(), other.still()), (4, 4, 10))

    def assert_as_plainly_told(self, first, fades):
        course = Course(first)
        plain = PlainCourse(first)
        for fade in fades:
            course.tell(*fade)
            plain.tell(*fade)
            self.assertEqual(course.aim(), plain.aim(), fades)
            self.assertEqual(course.still(), plain.still(), fades)
        for top, bottom in itertools.product(range(0, 28), (2, 3)):
            self.assertEqual(course.at(top, bottom), plain.at(Fraction(top, bottom)), (first, fades, top, bottom))
        for top in range(12):
            self.assertEqual(course.at(top), plain.at(Fraction(top)), (first, fades, top))

    def test_against_the_plain_telling_of_two_and_three(self):
        some = list(itertools.product((0, 3), (0, 2), (0, 4), (0, 5), (0, 2, 9)))
        for place, fades in enumerate(itertools.product(some, repeat=2)):
            self.assert_as_plainly_told((0, 2, 5)[place % 3], fades)
        few = list(itertools.product((4, 0, 2), (0, 3), (2,), (3,), (7, 1)))
        for place, fades in enumerate(itertools.product(few, repeat=3)):
            self.assert_as_plainly_told((0, 2, 5)[place % 3], fades)

    def test_against_the_plain_telling_of_many(self):
        for seed in range(300):
            # Any numbers will do, so they are the same in each run.
            worths = [(seed * 7919 + place * place * 104729 + place * seed * 31) % 1009 for place in range(40)]
            fades = []
            for place in range(0, 40, 5):
                fades.append((worths[place] % 6, worths[place + 1] % 6, worths[place + 2] % 5,
                              worths[place + 3] % 5, worths[place + 4] % 12))
            self.assert_as_plainly_told(worths[0] % 12, fades)


if __name__ == "__main__":
    unittest.main()
