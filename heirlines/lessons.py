"""Lessons, by which a hidden custom is found out."""

from heirlines.checks import is_between, need_between
from heirlines.customs import need_custom
from heirlines.errors import BadCases, BadMarks, BadWay, NothingBack
from heirlines.learning import Learner
from heirlines.lines import need_family, need_small
from heirlines.readings import heir_in
from heirlines.sidebyside import least_apart
from heirlines.ways import member_path

MOST_CORRECTIONS = 100


def need_heir(family, heir):
    """Raise BadWay unless this is None or the way of a living member."""
    if heir is None:
        return
    path = member_path(family, heir)
    if path is None or not family[path[-1]][1]:
        raise BadWay(heir)


class Lesson:
    """Finds out a hidden custom of so many marks by asking for heirs."""

    def __init__(self, marks):
        if not is_between(marks, 1, 3):
            raise BadMarks(marks)
        self.marks = marks
        self._learner = Learner(marks)
        self._answers = 0
        self._corrections = 0

    def question(self):
        """The open question, or None."""
        if not self._learner.waiting:
            return None
        return self._learner.table.shelf.short(self._learner.waiting[0])

    def answer(self, heir):
        """Take the heir of the open question."""
        question = self.question()
        if question is None:
            raise NothingBack()
        need_heir(question, heir)
        self._answers += 1
        self._learner.learn(self._learner.waiting[0], heir)

    def guess(self):
        """The guess, None as long as a question is open."""
        return None if self._learner.waiting else self._learner.guess

    def correct(self, family, heir):
        """Take a family whose heir isn't the one that the guess names."""
        need_family(family, self.marks)
        need_small(family)
        need_heir(family, heir)
        if self._learner.waiting:
            raise NothingBack()
        if heir_in(self._learner.guess, family) == heir:
            raise BadCases(None)
        self._corrections += 1
        self._learner.learn(self._learner.table.shelf.keep_family(family), heir)

    def counts(self):
        """How many questions were answered, and how many corrections were made."""
        return self._answers, self._corrections


def answer_all(lesson, custom):
    """Answer by the custom as long as a question is open."""
    question = lesson.question()
    while question is not None:
        lesson.answer(heir_in(custom, question))
        question = lesson.question()


def found_out(custom, most):
    """What a lesson guesses that is answered and corrected by the custom, and how much was asked and corrected."""
    need_custom(custom)
    need_between(most, 0, MOST_CORRECTIONS)
    lesson = Lesson(custom[0])
    answer_all(lesson, custom)
    while lesson.counts()[1] < most:
        family = least_apart(lesson.guess(), custom)
        if family is None:
            break
        need_small(family)
        lesson.correct(family, heir_in(custom, family))
        answer_all(lesson, custom)
    asked, corrected = lesson.counts()
    return lesson.guess(), asked, corrected
