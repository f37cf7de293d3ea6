"""heirlines.lessons: point [70]"""

import random
import unittest
import unittest.mock

from heirlines.alike import are_alike
from heirlines.customs import need_custom
from heirlines.heirs import heir
from heirlines.least import size_of as least_size
from heirlines.lessons import Lesson, found_out
from heirlines.parted import parting_family
from heirlines.shorts import short
from tests.helper import (ELDEST, NOBODY, YOUNGEST, at, big_custom, chain, count_stands, customs, grow, narrow, raised,
                          random_custom, random_family, size_of, ways_of, with_members)
from tests.interface_tables import FAMILIES

LEAF = (0, True, ())
CUSTOMS = [ELDEST, YOUNGEST, NOBODY] + customs(4000, 10, 1, 6) + customs(4001, 6, 2, 5) + [count_stands(7)]


def finished(custom):
    """A lesson without an open question."""
    lesson = Lesson(custom[0])
    while lesson.question() is not None:
        lesson.answer(heir(custom, lesson.question()))
    return lesson


class Teacher:
    """Leads a lesson by a hidden custom, with any corrections, and looks at all that it tells."""

    def __init__(self, test, custom, rng):
        self.test = test
        self.custom = custom
        self.rng = rng
        self.lesson = Lesson(custom[0])
        self.told = {}
        self.asked = 0
        self.corrected = 0

    def answer_all(self):
        test = self.test
        question = self.lesson.question()
        while question is not None:
            test.assertIsNone(self.lesson.guess())
            test.assertEqual(short(question), question)
            test.assertNotIn(question, self.told)
            test.assertEqual(self.lesson.question(), question)
            self.told[question] = heir(self.custom, question)
            test.assertIsNone(self.lesson.answer(self.told[question]))
            self.asked += 1
            test.assertEqual(self.lesson.counts(), (self.asked, self.corrected))
            question = self.lesson.question()

    def correction(self):
        """Any family of at most 300 members in which the guess is wrong, if one is found."""
        guess = self.lesson.guess()
        for _ in range(40):
            family = random_family(self.rng, self.rng.choice((4, 8, 12)), self.custom[0], 3)
            if size_of(family) <= 300 and heir(guess, family) != heir(self.custom, family):
                return family
        return parting_family(guess, self.custom)

    def lead(self):
        test = self.test
        stands, ranks = least_size(self.custom)
        test.assertIsNotNone(self.lesson.question())
        self.answer_all()
        while True:
            guess = need_custom(self.lesson.guess())
            test.assertEqual(guess[0], self.custom[0])
            test.assertLessEqual(len(guess[1]), stands)
            test.assertLessEqual(len(guess[2]), ranks)
            for family, own in self.told.items():
                if size_of(family) <= 300:
                    test.assertEqual(heir(guess, family), own)
            family = self.correction()
            if family is None:
                break
            self.told[short(family)] = heir(self.custom, family)
            test.assertIsNone(self.lesson.correct(family, heir(self.custom, family)))
            self.corrected += 1
            self.answer_all()
        test.assertTrue(are_alike(guess, self.custom))
        test.assertLessEqual(self.corrected, stands + ranks - 2)
        test.assertLessEqual(self.asked, 5000)
        test.assertEqual(self.lesson.counts(), (self.asked, self.corrected))


class Lessons(unittest.TestCase):

    def test_hidden_customs(self):
        rng = random.Random(4002)
        for custom in CUSTOMS + [random_custom(rng, rng.choice((1, 2, 3)), 8) for _ in range(40)]:
            Teacher(self, custom, rng).lead()

    def test_great_hidden_customs(self):
        rng = random.Random(4003)
        for _ in range(3):
            Teacher(self, big_custom(rng), rng).lead()

    def test_long_and_wide_corrections(self):
        rng = random.Random(4004)
        for custom in CUSTOMS + [big_custom(rng, 1)]:
            lesson = finished(custom)
            for family in (chain(300), (LEAF, (0, False, (0,) * 299)), chain(299)[:298] + ((0, False, (297, 297)[:1]),)):
                if size_of(family) <= 300 and heir(lesson.guess(), family) != heir(custom, family):
                    lesson.correct(family, heir(custom, family))
                    while lesson.question() is not None:
                        lesson.answer(heir(custom, lesson.question()))
                    self.assertEqual(heir(lesson.guess(), family), heir(custom, family))

    def test_marks(self):
        for marks in (1, 2, 3):
            self.assertEqual(Lesson(marks).marks, marks)
            self.assertEqual(Lesson(marks=marks).counts(), (0, 0))
        for value in (None, True, 0, 4, -1, "1", (1,)):
            self.assertEqual(raised(Lesson, value), ("BadMarks", value))

    def test_equal_lessons_ask_alike(self):
        one, other = Lesson(1), Lesson(1)
        while one.question() is not None:
            self.assertEqual(one.question(), other.question())
            own = heir(ELDEST, one.question())
            one.answer(own)
            other.answer(own)
        self.assertEqual(one.guess(), other.guess())

    def test_errors_of_answer(self):
        lesson = Lesson(1)
        question = lesson.question()
        for value in (True, "0", [], (9,), (True,), [0]):
            self.assertEqual(raised(lesson.answer, value), ("BadWay", value))
        while all(line[1] for line in lesson.question()):
            lesson.answer(heir(ELDEST, lesson.question()))
        own = lesson.question()
        dead = next(way for way in ways_of(grow(own)) if not at(grow(own), way).is_alive)
        self.assertEqual(raised(lesson.answer, dead), ("BadWay", dead))
        self.assertEqual(lesson.question(), own)
        lesson = Lesson(1)
        self.assertEqual(lesson.question(), question)
        self.assertEqual(lesson.counts(), (0, 0))
        lesson = finished(ELDEST)
        counts = lesson.counts()
        for value in (None, (), "x", 5):
            self.assertEqual(raised(lesson.answer, value), ("NothingBack",))
        self.assertEqual(raised(lesson.answer, heir="x"), ("NothingBack",))
        self.assertEqual(lesson.counts(), counts)

    def test_errors_of_correct(self):
        lesson = Lesson(1)
        great = with_members(301)
        self.assertEqual(raised(lesson.correct, great, "x"), ("TooGreat", 300))
        self.assertEqual(raised(lesson.correct, (LEAF,), "x"), ("BadWay", "x"))
        self.assertEqual(raised(lesson.correct, (LEAF,), ()), ("NothingBack",))
        for value, told in FAMILIES:
            self.assertEqual(raised(lesson.correct, value, "x"), told)
        self.assertEqual(raised(lesson.correct, ((1, True, ()),), "x"), ("BadFamily", 0))
        self.assertEqual(raised(lesson.correct, family=narrow(10 ** 60 + 1), heir=None), ("BadFamily", None))
        lesson = finished(ELDEST)
        dead = ((0, False, ()), (0, True, (0,)))
        for value in ((0,), (1,), 0, [], "x", True):
            self.assertEqual(raised(lesson.correct, dead, value), ("BadWay", value))
        self.assertEqual(raised(lesson.correct, dead, ()), ("BadCases", None))
        self.assertEqual(raised(lesson.correct, great, ()), ("TooGreat", 300))
        self.assertEqual(lesson.counts()[1], 0)
        self.assertEqual(Lesson(3).correct.__name__, "correct")
        self.assertIsNone(raised(finished(big_custom(random.Random(1))).counts))

    def test_a_correction_is_taken_in_any_form(self):
        # the seventh child tells
        custom = count_stands(7)
        lesson = finished(custom)
        family = (LEAF, (0, False, (0,) * 7))
        self.assertNotEqual(heir(lesson.guess(), family), heir(custom, family))
        lesson.correct((LEAF, LEAF, (0, False, (0, 1, 0, 1, 1, 0, 0))), heir(custom, family))
        self.assertEqual(lesson.counts()[1], 1)
        while lesson.question() is not None:
            self.assertNotEqual(lesson.question(), family)
            lesson.answer(heir(custom, lesson.question()))
        self.assertTrue(are_alike(lesson.guess(), custom))

    def test_answers_of_no_custom(self):
        # the eldest or the youngest child by turns: whatever is told of it, it comes to an end
        for seed in range(6):
            rng = random.Random(seed)
            lesson = Lesson(1)
            told = None
            for _ in range(6000):
                question = lesson.question()
                if question is None or told is not None:
                    break
                told = raised(lesson.answer, rng.choice((heir(ELDEST, question), heir(YOUNGEST, question))))
            self.assertIn(told, (None, ("TooGreat", 8)))


class FoundOut(unittest.TestCase):

    def test_alike_behind_enough_corrections(self):
        rng = random.Random(4005)
        for custom in CUSTOMS + [big_custom(rng, 2)]:
            stands, ranks = least_size(custom)
            guess, asked, corrected = found_out(custom, 100)
            self.assertTrue(are_alike(guess, custom))
            self.assertLessEqual(corrected, stands + ranks - 2)
            self.assertLessEqual(asked, 5000)
            self.assertEqual(found_out(custom, corrected), (guess, asked, corrected))

    def test_most(self):
        custom = count_stands(7)
        guess, asked, corrected = found_out(custom, 0)
        self.assertEqual(corrected, 0)
        self.assertFalse(are_alike(guess, custom))
        self.assertEqual(asked, finished(custom).counts()[0])
        self.assertEqual(guess, finished(custom).guess())
        some = [one for one in CUSTOMS if found_out(one, 100)[2] > 1]
        for custom in some:
            guess, asked, corrected = found_out(custom, 1)
            self.assertEqual(corrected, 1)
            self.assertFalse(are_alike(guess, custom))

    def test_a_family_of_too_many_members(self):
        # no custom at hand has a guess that is parted from it so late, so it is told one
        custom = count_stands(7)
        great = (LEAF, (0, False, (0,) * 300))
        self.assertNotEqual(heir(custom, great), heir(found_out(custom, 0)[0], great))
        with unittest.mock.patch("heirlines.lessons.least_apart", lambda guess, hidden: great):
            self.assertEqual(raised(found_out, custom, 1), ("TooGreat", 300))
            self.assertIsNone(raised(found_out, custom, 0))
            self.assertEqual(raised(found_out, custom, 101), ("BadNumber", 101))


if __name__ == "__main__":
    unittest.main()
