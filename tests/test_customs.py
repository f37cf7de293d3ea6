"""heirlines.customs: points [13] and [24]"""

import itertools
import random
import unittest

from heirlines.customs import barring, is_custom, need_custom, renumbered, same_marks, with_marks
from heirlines.heirs import heir
from tests.helper import (ELDEST, NOBODY, YOUNGEST, all_families, customs, grow, heir_in, raised, small_families, tell,
                          at, ways_of)


def put(value, path, new):
    """The nested tuple with another thing at a place."""
    if not path:
        return new
    return value[:path[0]] + (put(value[path[0]], path[1:], new),) + value[path[0] + 1:]


def word_of(custom):
    told = raised(need_custom, custom)
    return None if told is None else told[1]


class NeedCustom(unittest.TestCase):

    def test_customs_are_told_back(self):
        for custom in [ELDEST, YOUNGEST, NOBODY] + customs(1, 60, marks=3, most=8):
            self.assertIs(need_custom(custom), custom)
            self.assertTrue(is_custom(custom))

    def test_form(self):
        for value in (None, 0, True, "", [], (), list(ELDEST), ELDEST[:4], ELDEST + (0,), "12345", b"12345"):
            self.assertEqual(word_of(value), "form")
        for marks in (0, 4, -1, True, None, "1", (1,), 10 ** 900):
            self.assertEqual(word_of((marks,) + ELDEST[1:]), "form")

    def test_stands(self):
        for stands in (None, [False, True], (), (True,), (True, False), (False, 1), (0, True), (False, None),
                       (False,) * 9, "FT", False):
            self.assertEqual(word_of(put(ELDEST, (1,), stands)), "stands")
        self.assertEqual(word_of(put(ELDEST, (1,), (False,))), "read")

    def test_ranks(self):
        for ranks in (None, [False, True], (), (0, True), (False, 1), (False, None), (False,) * 9, "FT"):
            self.assertEqual(word_of(put(ELDEST, (2,), ranks)), "ranks")
        self.assertEqual(word_of(put(ELDEST, (2,), (True, True))), "close")
        self.assertEqual(word_of(put(ELDEST, (2,), (True, False))), "read")

    def test_eight_stands_and_ranks(self):
        read = tuple(tuple((0, "none") for _ in range(8)) for _ in range(8))
        close = ((tuple((0, "none") for _ in range(8)),) * 2,)
        self.assertTrue(is_custom((1, (False,) * 8, (False,) * 8, read, close)))
        self.assertEqual(word_of((1, (False,) * 9, (False,) * 9, read, close)), "stands")

    def test_read_has_a_cell_for_each_stand_and_rank(self):
        for value in (None, [], (), ELDEST[3][:1], ELDEST[3] + ELDEST[3][:1], list(ELDEST[3]), "ab", 2):
            self.assertEqual(word_of(put(ELDEST, (3,), value)), "read")
        for stand in (0, 1):
            row = ELDEST[3][stand]
            for value in (None, [], (), row[:1], row + row[:1], list(row), "ab", 2):
                self.assertEqual(word_of(put(ELDEST, (3, stand), value)), "read")
            for rank in (0, 1):
                for value in (None, [], (), (0,), (0, "none", 0), [0, "none"], "0n", 0, (2, "old"), (-1, "none"),
                              (True, "old"), (False, "none"), ("0", "none"), (None, "none"), (0, None), (0, 0),
                              (0, ""), (0, "self"), (1, "line"), (1, "self"), (10 ** 900, "none"),
                              (-1, "old"), (-1, "new"), (-2, "none"), (2, "new"), (2, "none")):
                    self.assertEqual(word_of(put(ELDEST, (3, stand, rank), value)), "read", value)

    def test_keep_goes_with_the_truths(self):
        for stand, rank, behind in itertools.product((0, 1), (0, 1), (0, 1)):
            for keep in ("none", "old", "new"):
                custom = put(ELDEST, (3, stand, rank), (behind, keep))
                if behind == 0:
                    right = keep == "none"
                else:
                    right = (keep == "old" and stand == 1) or (keep == "new" and rank == 1)
                self.assertEqual(word_of(custom), None if right else "read")

    def test_close_has_a_cell_for_each_mark_and_stand(self):
        for value in (None, [], (), ELDEST[4] * 2, list(ELDEST[4]), "a", 1):
            self.assertEqual(word_of(put(ELDEST, (4,), value)), "close")
        for value in (None, [], (), ELDEST[4][0][:1], ELDEST[4][0] + (0,), list(ELDEST[4][0]), "ab"):
            self.assertEqual(word_of(put(ELDEST, (4, 0), value)), "close")
        for life in (0, 1):
            row = ELDEST[4][0][life]
            for value in (None, [], (), row[:1], row + row[:1], list(row), "ab", 2):
                self.assertEqual(word_of(put(ELDEST, (4, 0, life), value)), "close")
            for value in (None, [], (), (0,), (0, "none", 0), [0, "none"], "0n", 0, (2, "none"), (-1, "none"),
                          (True, "line"), (False, "none"), ("0", "none"), (0, None), (0, ""), (1, "old"), (1, "new"),
                          (1, "none"), (0, "self"), (0, "line"), (10 ** 900, "none"), (-1, "line"), (-1, "self"),
                          (-2, "none"), (2, "line"), (2, "self")):
                self.assertEqual(word_of(put(ELDEST, (4, 0, life, 0), value)), "close", value)

    def test_pick_goes_with_the_truths(self):
        for life, stand, rank in itertools.product((0, 1), (0, 1), (0, 1)):
            for pick in ("none", "line", "self"):
                custom = put(ELDEST, (4, 0, life, stand), (rank, pick))
                if rank == 0:
                    right = pick == "none"
                else:
                    right = (pick == "line" and stand == 1) or (pick == "self" and life == 1)
                self.assertEqual(word_of(custom), None if right else "close")

    def test_also_where_no_family_leads(self):
        # nothing leads to the stand 1 or the rank 1 of this one
        custom = (1, (False, True), (False, True),
                  (((0, "none"), (0, "none")), ((0, "none"), (0, "none"))),
                  ((((0, "none"), (0, "none")), ((0, "none"), (0, "none"))),))
        self.assertTrue(is_custom(custom))
        self.assertEqual(word_of(put(custom, (3, 1, 0), (1, "new"))), "read")
        self.assertEqual(word_of(put(custom, (3, 1, 1), (1, "none"))), "read")
        self.assertIsNone(word_of(put(custom, (3, 1, 1), (1, "new"))))
        self.assertEqual(word_of(put(custom, (4, 0, 0, 1), (1, "self"))), "close")
        self.assertIsNone(word_of(put(custom, (4, 0, 1, 1), (1, "self"))))

    def test_the_first_wrong_word_is_told(self):
        words = ("form", "stands", "ranks", "read", "close")
        for first in range(5):
            for second in range(first, 5):
                custom = list(ELDEST)
                custom[second] = None
                custom[first] = None
                self.assertEqual(word_of(tuple(custom)), words[first])

    def test_marks_have_as_many_closes(self):
        for marks in (1, 2, 3):
            for many in (0, 1, 2, 3, 4):
                custom = (marks,) + ELDEST[1:4] + (ELDEST[4] * many,)
                self.assertEqual(word_of(custom), None if many == marks else "close")


class IsCustom(unittest.TestCase):

    def test_any_value(self):
        for value in (None, 0, True, "", "text", b"", [], {}, set(), object(), (), ((),), (1, 2, 3, 4, 5), len,
                      list(ELDEST), put(ELDEST, (4, 0, 0, 0), (5, "none"))):
            self.assertIs(is_custom(value), False)
        self.assertIs(is_custom(ELDEST), True)
        self.assertIs(is_custom(value=NOBODY), True)


class SameMarks(unittest.TestCase):

    def test_all(self):
        two = (2,) + ELDEST[1:4] + (ELDEST[4] * 2,)
        self.assertIsNone(same_marks(ELDEST, YOUNGEST))
        self.assertIsNone(same_marks(custom=two, other=two))
        self.assertEqual(raised(same_marks, ELDEST, two), ("BadMarks", 2))
        self.assertEqual(raised(same_marks, two, ELDEST), ("BadMarks", 1))
        self.assertEqual(raised(same_marks, put(ELDEST, (2,), ()), put(two, (1,), ())), ("BadCustom", "ranks"))
        self.assertEqual(raised(same_marks, ELDEST, put(two, (4,), ())), ("BadCustom", "close"))


class Renumbered(unittest.TestCase):

    def turns(self, custom, rng):
        stands = list(range(1, len(custom[1])))
        ranks = list(range(len(custom[2])))
        rng.shuffle(stands)
        rng.shuffle(ranks)
        return (0,) + tuple(stands), tuple(ranks)

    def test_the_same_heirs(self):
        rng = random.Random(3)
        families = small_families(60, 40, most=30, marks=2)
        for custom in customs(2, 30, marks=2):
            stands, ranks = self.turns(custom, rng)
            turned = renumbered(custom, stands, ranks)
            self.assertTrue(is_custom(turned))
            for family in families:
                self.assertEqual(heir(turned, family), heir(custom, family))

    def test_each_part(self):
        rng = random.Random(4)
        for custom in customs(3, 30, marks=2):
            stands, ranks = self.turns(custom, rng)
            turned = renumbered(custom, stands, ranks)
            self.assertEqual(turned[0], custom[0])
            for stand, truth in enumerate(custom[1]):
                self.assertEqual(turned[1][stands[stand]], truth)
                for rank, (behind, keep) in enumerate(custom[3][stand]):
                    self.assertEqual(turned[3][stands[stand]][ranks[rank]], (stands[behind], keep))
                for mark, life in itertools.product(range(custom[0]), (0, 1)):
                    rank, pick = custom[4][mark][life][stand]
                    self.assertEqual(turned[4][mark][life][stands[stand]], (ranks[rank], pick))
            for rank, truth in enumerate(custom[2]):
                self.assertEqual(turned[2][ranks[rank]], truth)
            back = [tuple(turn.index(number) for number in range(len(turn))) for turn in (stands, ranks)]
            self.assertEqual(renumbered(turned, *back), custom)

    def test_by_hand(self):
        self.assertEqual(renumbered(ELDEST, (0, 1), (0, 1)), ELDEST)
        self.assertEqual(renumbered(ELDEST, (0, 1), (1, 0)),
                         (1, (False, True), (True, False),
                          (((1, "new"), (0, "none")), ((1, "old"), (1, "old"))),
                          ((((1, "none"), (0, "line")), ((0, "self"), (0, "self"))),)))

    def test_wrong_turns(self):
        wrong = (None, 0, [0, 1], (), (0,), (0, 0), (1, 1), (0, 2), (0, 1, 2), (0, True), (False, 1), (-1, 0), "01",
                 (0, "1"), (0, None))
        for turn in wrong:
            self.assertEqual(raised(renumbered, ELDEST, turn, (0, 1)), ("BadNumber", turn))
            self.assertEqual(raised(renumbered, ELDEST, (0, 1), turn), ("BadNumber", turn))
            self.assertEqual(raised(renumbered, ELDEST, turn, None), ("BadNumber", turn))
            self.assertEqual(raised(renumbered, None, turn, turn), ("BadCustom", "form"))
        self.assertEqual(raised(renumbered, ELDEST, (1, 0), (0, 1)), ("BadNumber", (1, 0)))
        self.assertIsNone(raised(renumbered, ELDEST, (0, 1), (1, 0)))


class WithMarks(unittest.TestCase):

    def test_the_heir_in_the_family_with_the_other_marks(self):
        families = small_families(61, 60, most=25)
        for custom in customs(4, 20, marks=3):
            for marks in ((0, 1, 2), (2, 2, 2), (1, 0, 2), (2, 0, 0)):
                changed = with_marks(custom, marks)
                for family in families[:15]:
                    other = tuple((marks[mark], is_alive, children) for mark, is_alive, children in family)
                    self.assertEqual(heir(changed, family), heir(custom, other))

    def test_as_many_marks_as_told(self):
        two = (2,) + ELDEST[1:4] + (ELDEST[4] + YOUNGEST[4],)
        self.assertEqual(with_marks(two, (1,)), (1,) + ELDEST[1:4] + (YOUNGEST[4],))
        self.assertEqual(with_marks(two, (1, 0, 1)), (3,) + ELDEST[1:4] + (YOUNGEST[4] + ELDEST[4] + YOUNGEST[4],))
        self.assertEqual(with_marks(two, (0, 1)), two)
        self.assertEqual(with_marks(ELDEST, marks=(0, 0)), (2,) + ELDEST[1:4] + (ELDEST[4] * 2,))

    def test_wrong_ones(self):
        two = (2,) + ELDEST[1:4] + (ELDEST[4] * 2,)
        for marks in (None, 0, [0], (), (2,), (0, 2), (-1,), (True,), (0, False), ("0",), (0, 0, 0, 0), "0", (None,)):
            self.assertEqual(raised(with_marks, two, marks), ("BadNumber", marks))
            self.assertEqual(raised(with_marks, (), marks), ("BadCustom", "form"))


class Barring(unittest.TestCase):

    def test_the_heir_in_the_family_with_these_dead(self):
        families = small_families(62, 60, most=25)
        for custom in customs(5, 20, marks=3):
            for marks in ((), (0,), (2,), (0, 1), (0, 1, 2)):
                changed = barring(custom, marks)
                self.assertTrue(is_custom(changed))
                for family in families[:15]:
                    founder = grow(family)
                    for way in ways_of(founder):
                        if at(founder, way).mark in marks:
                            at(founder, way).is_alive = False
                    self.assertEqual(heir(changed, family), heir(custom, tell(founder)))

    def test_everything_else_is_the_same(self):
        self.assertEqual(barring(ELDEST, ()), ELDEST)
        self.assertEqual(barring(ELDEST, (0,)), ELDEST[:4] + (((ELDEST[4][0][0], ELDEST[4][0][0]),),))
        for custom in customs(6, 10, marks=3):
            changed = barring(custom, (1,))
            self.assertEqual(changed[:4], custom[:4])
            self.assertEqual((changed[4][0], changed[4][2]), (custom[4][0], custom[4][2]))
            self.assertEqual(changed[4][1], (custom[4][1][0],) * 2)

    def test_wrong_ones(self):
        two = (2,) + ELDEST[1:4] + (ELDEST[4] * 2,)
        for marks in (None, 0, [0], (2,), (0, 2), (-1,), (True,), (1, 0), (0, 0), ("0",), (0, 1, 2), "", (None,)):
            self.assertEqual(raised(barring, two, marks), ("BadNumber", marks))
            self.assertEqual(raised(barring, None, marks), ("BadCustom", "form"))
        self.assertEqual(raised(barring, marks=(0, 1), custom=two), None)


class AllSmall(unittest.TestCase):

    def test_heirs_of_the_example_customs(self):
        for custom in (ELDEST, YOUNGEST, NOBODY):
            for family in all_families(4, 1):
                self.assertEqual(heir(custom, family), heir_in(custom, grow(family)))


if __name__ == "__main__":
    unittest.main()
