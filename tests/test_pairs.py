"""heirlines.pairs: points [17], [19], [35] and [36]"""

import itertools
import unittest

from heirlines.pairs import behind_close, behind_read, line_pairs, sizes, stand_pairs
from tests.helper import (ELDEST, NOBODY, YOUNGEST, all_families, customs, grow, raised, read_member, relation,
                          size_of, small_families)

WORDS = ("none", "first", "second", "same", "above", "below", "elder", "younger")
BOTH = ("same", "above", "below", "elder", "younger")


def read_row(custom, lines):
    """(stand, the held way) behind children with these (rank, claimant)."""
    stand, held = 0, None
    for place, (rank, claimant) in enumerate(lines):
        stand, keep = custom[3][stand][rank]
        held = {"old": held, "none": None, "new": (place,) + claimant if claimant is not None else None}[keep]
    return stand, held


def words_for(holds, far_holds):
    if holds and far_holds:
        return BOTH
    return ("first",) if holds else ("second",) if far_holds else ("none",)


def triples(holds, far_holds):
    return [(one, two, word) for one in range(len(holds)) for two in range(len(far_holds))
            for word in words_for(holds[one], far_holds[two])]


class Behind(unittest.TestCase):

    def test_all_triples_that_go_with_the_truths(self):
        for one, two in zip(customs(200, 25, 2, 3), customs(201, 25, 2, 3)):
            for stands in triples(one[1], two[1]):
                for ranks in triples(one[2], two[2]):
                    self.assertEqual(behind_read(one, two, stands, ranks), self.slow_read(one, two, stands, ranks))
                for mark, is_alive in itertools.product((0, 1), (False, True)):
                    told = behind_close(one, two, stands, mark, is_alive)
                    self.assertEqual(told, self.slow_close(one, two, stands, mark, is_alive))

    def slow_read(self, one, two, stands, ranks):
        behind, keep = one[3][stands[0]][ranks[0]]
        far_behind, far_keep = two[3][stands[1]][ranks[1]]
        word = {("old", "old"): stands[2], ("new", "new"): ranks[2], ("old", "new"): "elder", ("new", "old"): "younger",
                ("none", "none"): "none", ("old", "none"): "first", ("new", "none"): "first",
                ("none", "old"): "second", ("none", "new"): "second"}[keep, far_keep]
        return behind, far_behind, word

    def slow_close(self, one, two, stands, mark, is_alive):
        rank, pick = one[4][mark][int(is_alive)][stands[0]]
        far_rank, far_pick = two[4][mark][int(is_alive)][stands[1]]
        word = {("self", "self"): "same", ("line", "line"): stands[2], ("self", "line"): "above",
                ("line", "self"): "below", ("none", "none"): "none", ("self", "none"): "first",
                ("line", "none"): "first", ("none", "self"): "second", ("none", "line"): "second"}[pick, far_pick]
        return rank, far_rank, word

    def test_rows_and_lines_of_members(self):
        for one, two in zip(customs(202, 12, 1, 4), customs(203, 12, 1, 4)):
            families = small_families(204, 12, most=8, marks=1)
            lines = [(read_member(one, grow(family)), read_member(two, grow(family))) for family in families]
            for chosen in itertools.product(lines, repeat=2):
                triple = (0, 0, "none")
                for first, second in chosen:
                    triple = behind_read(one, two, triple, (first[0], second[0], relation(first[1], second[1])))
                stand, held = read_row(one, [first for first, _ in chosen])
                far_stand, far_held = read_row(two, [second for _, second in chosen])
                self.assertEqual(triple, (stand, far_stand, relation(held, far_held)))

    def test_triples_that_are_none(self):
        good = (0, 0, "none")
        wrong = (None, 0, "", [], (), (0, 0), (0, 0, "none", 0), [0, 0, "none"], (2, 0, "none"), (0, 2, "none"),
                 (-1, 0, "none"), (False, 0, "none"), (0, False, "none"), ("0", 0, "none"), (0, None, "none"),
                 (0, 0, None), (0, 0, ""), (0, 0, "same"), (0, 0, "first"), (0, 0, "None"), (1, 0, "none"),
                 (1, 0, "second"), (1, 0, "same"), (0, 1, "none"), (0, 1, "first"), (1, 1, "none"), (1, 1, "first"),
                 (1, 1, "second"), (1, 1, None), (1, 1, ["same"]), (10 ** 900, 0, "none"), (True, 1, "same"),
                 (-1, 0, "first"), (0, -1, "second"), (-1, -1, "same"), (1, -1, "same"))
        for value in wrong:
            self.assertEqual(raised(behind_read, ELDEST, YOUNGEST, value, good), ("BadNumber", value))
            self.assertEqual(raised(behind_read, ELDEST, YOUNGEST, good, value), ("BadNumber", value))
            self.assertEqual(raised(behind_read, ELDEST, YOUNGEST, value, None), ("BadNumber", value))
            self.assertEqual(raised(behind_close, ELDEST, YOUNGEST, value, 9, None), ("BadNumber", value))
        for value in ((0, 0, "none"), (1, 0, "first"), (0, 1, "second")) + tuple((1, 1, word) for word in BOTH):
            self.assertIsNone(raised(behind_read, ELDEST, YOUNGEST, value, good))
            self.assertIsNone(raised(behind_read, ELDEST, YOUNGEST, good, value))
            self.assertIsNone(raised(behind_close, ELDEST, YOUNGEST, value, 0, True))

    def test_each_word_that_does_not_go_with_the_truths_is_refused(self):
        for one, two in zip(customs(205, 6, 1, 3), customs(206, 6, 1, 3)):
            for places, check in ((1, behind_close), (2, behind_read)):
                for stand, far, word in itertools.product(range(len(one[places])), range(len(two[places])), WORDS):
                    right = word in words_for(one[places][stand], two[places][far])
                    more = ((0, 0, "none"), (stand, far, word)) if places == 2 else ((stand, far, word), 0, True)
                    told = raised(check, one, two, *more)
                    self.assertEqual(told, None if right else ("BadNumber", (stand, far, word)))

    def test_marks_and_lives(self):
        good = (0, 0, "none")
        for mark in (-1, 1, 2, True, False, None, "0", (0,), 10 ** 900):
            self.assertEqual(raised(behind_close, ELDEST, YOUNGEST, good, mark, None), ("BadNumber", mark))
        for is_alive in (0, 1, None, "True", ()):
            self.assertEqual(raised(behind_close, ELDEST, YOUNGEST, good, 0, is_alive), ("BadNumber", is_alive))
        self.assertEqual(behind_close(is_alive=True, mark=0, stands=good, other=YOUNGEST, custom=ELDEST), (1, 1,
                                                                                                           "same"))


class Pairs(unittest.TestCase):

    def test_by_hand(self):
        self.assertEqual(line_pairs(NOBODY, NOBODY), ((0, 0, "none"),))
        self.assertEqual(stand_pairs(NOBODY, NOBODY), ((0, 0, "none"),))
        self.assertEqual(sizes(NOBODY, NOBODY), (((0, 0, "none"), 1),))
        self.assertEqual(line_pairs(ELDEST, NOBODY), ((0, 0, "none"), (1, 0, "first")))
        self.assertEqual(line_pairs(NOBODY, ELDEST), ((0, 0, "none"), (0, 1, "second")))
        self.assertEqual(sizes(ELDEST, ELDEST), (((0, 0, "none"), 1), ((1, 1, "same"), 1)))
        self.assertEqual(stand_pairs(ELDEST, ELDEST), ((0, 0, "none"), (1, 1, "same")))
        told = dict(sizes(ELDEST, YOUNGEST))
        self.assertEqual(told[(1, 1, "same")], 1)
        self.assertEqual(told[(1, 1, "above")], 2)
        self.assertEqual(told[(1, 1, "elder")], 3)

    def test_all_small_families_by_both(self):
        families = all_families(5, 1)
        for one, two in list(zip(customs(210, 14, 1, 3), customs(211, 14, 1, 3))) + [(ELDEST, YOUNGEST)]:
            shown, rows = {}, {(0, 0, "none"): 0}
            for family in families:
                first, second = read_member(one, grow(family)), read_member(two, grow(family))
                triple = (first[0], second[0], relation(first[1], second[1]))
                shown[triple] = min(shown.get(triple, 9), size_of(family))
                children = grow(family).children
                row = [read_row(custom, [read_member(custom, child) for child in children]) for custom in (one, two)]
                triple = (row[0][0], row[1][0], relation(row[0][1], row[1][1]))
                rows[triple] = min(rows.get(triple, 9), size_of(family) - 1)
            told = sizes(one, two)
            self.assertEqual(tuple(pair for pair, _ in told), line_pairs(one, two))
            self.assertEqual({pair: size for pair, size in told if size <= 5}, shown)
            self.assertTrue(set(rows) <= set(stand_pairs(one, two)))

    def test_they_are_just_what_comes(self):
        for one, two in zip(customs(212, 25, 2, 5), customs(213, 25, 2, 5)):
            lines, stands = set(), {(0, 0, "none")}
            while True:
                more = {behind_close(one, two, triple, mark, is_alive) for triple in stands
                        for mark in (0, 1) for is_alive in (True, False)}
                behind = {behind_read(one, two, triple, line) for triple in stands for line in lines}
                if more <= lines and behind <= stands:
                    break
                lines |= more
                stands |= behind
            self.assertEqual(line_pairs(one, two), tuple(sorted(lines)))
            self.assertEqual(stand_pairs(one, two), tuple(sorted(stands)))

    def test_sizes_are_least(self):
        for one, two in zip(customs(214, 20, 2, 6), customs(215, 20, 2, 6)):
            told = dict(sizes(one, two))
            # the least sizes of rows, by going on until nothing shrinks
            rows = {(0, 0, "none"): 0}
            shrinks = True
            while shrinks:
                shrinks = False
                for triple, size in list(rows.items()):
                    for line, more in told.items():
                        behind = behind_read(one, two, triple, line)
                        if rows.get(behind, size + more + 1) > size + more:
                            rows[behind] = size + more
                            shrinks = True
            least = {}
            for triple, size in rows.items():
                for mark, is_alive in itertools.product((0, 1), (True, False)):
                    line = behind_close(one, two, triple, mark, is_alive)
                    least[line] = min(least.get(line, size + 1), size + 1)
            self.assertEqual(least, told)

    def test_sizes_with_many_figures(self):
        # the rank counts: two lines of the rank N make one of the rank N + 1
        ranks = 8
        read = tuple(tuple((self.next_stand(stand, rank), "none") for rank in range(ranks)) for stand in range(8))
        close = ((tuple((0, "none") for _ in range(8)), tuple((stand, "none") for stand in range(8))),)
        custom = (1, (False,) * 8, (False,) * ranks, read, close)
        told = sizes(custom, custom)
        # a row of the stand N is one of the stand N - 1 with a further line of the rank N - 1
        expected = [1, 2]
        rows = [0, 1]
        for stand in range(2, 8):
            rows.append(rows[-1] + expected[-1])
            expected.append(rows[-1] + 1)
        self.assertEqual(told, tuple(((rank, rank, "none"), expected[rank]) for rank in range(8)))
        self.assertEqual(expected[-1], 128)

    def next_stand(self, stand, rank):
        return stand + 1 if stand == rank and stand < 7 else stand

    def test_wrong_ones(self):
        two = (2,) + ELDEST[1:4] + (ELDEST[4] * 2,)
        for function, more in ((line_pairs, ()), (stand_pairs, ()), (sizes, ()), (behind_read, (None, None)),
                               (behind_close, (None, None, None))):
            self.assertEqual(raised(function, None, None, *more), ("BadCustom", "form"))
            self.assertEqual(raised(function, two, ELDEST[:4] + (None,), *more), ("BadCustom", "close"))
            self.assertEqual(raised(function, ELDEST, two, *more), ("BadMarks", 2))
            self.assertEqual(raised(function, two, ELDEST, *more), ("BadMarks", 1))
        self.assertEqual(raised(line_pairs, other=None, custom=ELDEST), ("BadCustom", "form"))


if __name__ == "__main__":
    unittest.main()
