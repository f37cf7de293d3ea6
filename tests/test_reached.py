"""heirlines.reached: points [40] and [41]"""

import unittest

from heirlines.reached import (is_needed, line_for, line_size, reached_ranks, reached_stands, row_for, row_size)
from heirlines.shorts import short
from tests.helper import (ELDEST, NOBODY, YOUNGEST, Member, all_families, at, customs, grow, raised, read_member,
                          size_of, ways_of)


def stand_of(custom, lines):
    stand = 0
    for line in lines:
        stand = custom[3][stand][read_member(custom, line)[0]][0]
    return stand


def counting_custom():
    """Each living child without children leads one stand on, as far as the seventh."""
    read = tuple(((stand, "none"), (min(stand + 1, 7), "none")) for stand in range(8))
    close = (((0, "none"),) * 8, tuple((1 if stand == 0 else 0, "none") for stand in range(8)))
    return (1, (False,) * 8, (False, False), read, (close,))


def doubling_custom():
    """Ranks that need twice as many members each; two children of a rank make the next one."""
    read = tuple(tuple((stand + 1 if rank == stand // 2 and stand < 7 else stand, "none") for rank in range(4))
                 for stand in range(8))
    close = (((0, "none"),) * 8, tuple((min(stand // 2, 3), "none") for stand in range(8)))
    return (1, (False,) * 8, (False,) * 4, read, (close,))


class Reached(unittest.TestCase):

    def test_against_all_small_families(self):
        families = all_families(5, 1)
        founders = [grow(family) for family in families]
        for custom in [ELDEST, YOUNGEST, NOBODY, doubling_custom()] + customs(300, 20, 1, 4):
            lines, rows = {}, {0: 0}
            for family, founder in zip(families, founders):
                rank = read_member(custom, founder)[0]
                lines[rank] = min(lines.get(rank, 9), size_of(family))
                stand = stand_of(custom, founder.children)
                rows[stand] = min(rows.get(stand, 9), size_of(family) - 1)
            told = {rank: line_size(custom, rank) for rank in reached_ranks(custom)}
            self.assertEqual({rank: size for rank, size in told.items() if size <= 5}, lines)
            told = {stand: row_size(custom, stand) for stand in reached_stands(custom)}
            self.assertEqual({stand: size for stand, size in told.items() if size <= 4}, rows)

    def test_two_marks(self):
        families = all_families(3, 2)
        for custom in customs(301, 20, 2, 4):
            shown = {}
            for family in families:
                rank = read_member(custom, grow(family))[0]
                shown[rank] = min(shown.get(rank, 9), size_of(family))
            told = {rank: line_size(custom, rank) for rank in reached_ranks(custom)}
            self.assertEqual({rank: size for rank, size in told.items() if size <= 3}, shown)

    def test_least_lines_and_rows(self):
        for custom in [ELDEST, YOUNGEST, counting_custom(), doubling_custom()] + customs(302, 60, 3, 8):
            self.assertEqual(tuple(sorted(set(reached_ranks(custom)))), reached_ranks(custom))
            self.assertEqual(tuple(sorted(set(reached_stands(custom)))), reached_stands(custom))
            for rank in reached_ranks(custom):
                line = line_for(custom, rank)
                self.assertEqual(short(line), line)
                self.assertEqual(size_of(line), line_size(custom, rank))
                if size_of(line) < 2000:
                    self.assertEqual(read_member(custom, grow(line))[0], rank)
            for stand in reached_stands(custom):
                row = row_for(custom, stand)
                self.assertLessEqual(len(row), 7)
                self.assertEqual([short(line) for line in row], list(row))
                self.assertEqual(sum(size_of(line) for line in row), row_size(custom, stand))
                if row_size(custom, stand) < 2000:
                    self.assertEqual(stand_of(custom, [grow(line) for line in row]), stand)

    def test_facts_on_sizes(self):
        for custom in customs(303, 40, 2, 8):
            lines = {rank: line_size(custom, rank) for rank in reached_ranks(custom)}
            rows = {stand: row_size(custom, stand) for stand in reached_stands(custom)}
            self.assertEqual(rows[0], 0)
            for stand, size in rows.items():
                for rank, more in lines.items():
                    self.assertLessEqual(rows[custom[3][stand][rank][0]], size + more)
                for pair in custom[4]:
                    for cells in pair:
                        self.assertLessEqual(lines[cells[stand][0]], size + 1)

    def test_a_least_row_of_seven(self):
        custom = counting_custom()
        leaf = ((0, True, ()),)
        for stand in range(8):
            self.assertEqual(row_for(custom, stand), (leaf,) * stand)
            self.assertEqual(row_size(custom, stand), stand)
        self.assertEqual(row_for(ELDEST, 0), ())

    def test_doubling(self):
        custom = doubling_custom()
        self.assertEqual(reached_ranks(custom), (0, 1, 2, 3))
        self.assertEqual([line_size(custom, rank) for rank in range(4)], [1, 3, 9, 27])
        self.assertEqual([row_size(custom, stand) for stand in range(8)], [0, 1, 2, 5, 8, 17, 26, 53])

    def test_what_is_not_reached(self):
        custom = (1, (False, True, False), (False, True, False),
                  (((0, "none"), (1, "new"), (2, "none")), ((1, "old"), (1, "old"), (1, "old")), ((2, "none"),) * 3),
                  ((((0, "none"), (1, "line"), (2, "none")), ((1, "self"), (1, "self"), (2, "none"))),))
        self.assertEqual(reached_ranks(custom), (0, 1))
        self.assertEqual(reached_stands(custom), (0, 1))
        for function in (line_for, line_size):
            self.assertEqual(raised(function, custom, 2), ("BadNumber", 2))
        for function in (row_for, row_size, is_needed):
            self.assertEqual(raised(function, custom, 2), ("BadNumber", 2))


class Needed(unittest.TestCase):

    def put_ahead(self, founder, way, row):
        member = at(founder, way)
        member.children = row + member.children
        return founder

    def is_inside(self, custom, founder, way, many):
        heir = read_member(custom, founder)[1]
        return heir is not None and heir[:len(way)] == way and len(heir) > len(way) and heir[len(way)] < many

    def test_against_small_surroundings(self):
        families = all_families(3, 1)
        for custom in [ELDEST, YOUNGEST, NOBODY] + customs(310, 40, 1, 4):
            for stand in reached_stands(custom):
                if row_size(custom, stand) > 30:
                    continue
                row = [grow(line) for line in row_for(custom, stand)]
                found = any(self.is_inside(custom, self.put_ahead(grow(family), way, row), way, len(row))
                            for family in families for way in ways_of(grow(family)))
                if found:
                    self.assertIs(is_needed(custom, stand), True)
                if not is_needed(custom, stand):
                    self.assertFalse(found)

    def test_needed_ones_have_a_surrounding(self):
        for custom in [ELDEST, YOUNGEST] + customs(311, 60, 2, 5):
            for stand in reached_stands(custom):
                if is_needed(custom, stand):
                    self.assertTrue(custom[1][stand])
                    self.check_surrounding(custom, stand)

    def check_surrounding(self, custom, stand):
        """Rows of at most three further lines behind the row, closed in any way."""
        if sum(line_size(custom, rank) for rank in reached_ranks(custom)) > 200 or row_size(custom, stand) > 200:
            return
        lines = [grow(line_for(custom, rank)) for rank in reached_ranks(custom)]
        row = [grow(line) for line in row_for(custom, stand)]
        rows = [[]]
        for _ in range(len(custom[1])):
            for chosen in rows:
                for mark in range(custom[0]):
                    for is_alive in (False, True):
                        founder = Member(mark, is_alive, row + chosen)
                        if self.is_inside(custom, founder, (), len(row)):
                            return
            rows = [chosen + [line] for chosen in rows for line in lines]
        self.fail("no surrounding")

    def test_by_hand(self):
        self.assertIs(is_needed(ELDEST, 1), True)
        self.assertIs(is_needed(ELDEST, 0), False)
        self.assertIs(is_needed(NOBODY, 0), False)
        # what is held at the stand 1 is never picked, what is held at 2 is, and 1 leads there with it or not
        read = (((0, "none"), (1, "new")), ((1, "old"), (2, "old")), ((2, "old"), (2, "old")))
        close = ((((0, "none"), (0, "none"), (1, "line")), ((1, "self"), (1, "self"), (1, "self"))),)
        custom = (1, (False, True, True), (False, True), read, close)
        self.assertEqual([is_needed(custom, stand) for stand in range(3)], [False, True, True])
        read = (((0, "none"), (1, "new")), ((1, "old"), (2, "new")), ((2, "old"), (2, "old")))
        custom = (1, (False, True, True), (False, True), read, close)
        self.assertEqual([is_needed(custom, stand) for stand in range(3)], [False, False, True])
        # a rank that isn't reached leads nowhere
        read = (((0, "none"), (1, "new"), (0, "none")), ((1, "old"), (1, "new"), (2, "old")),
                ((2, "old"), (2, "old"), (2, "old")))
        custom = (1, (False, True, True), (False, True, True), read, close)
        self.assertEqual(reached_stands(custom), (0, 1))
        self.assertEqual([is_needed(custom, stand) for stand in range(2)], [False, False])


class WrongOnes(unittest.TestCase):

    def test_all(self):
        for function in (reached_ranks, reached_stands):
            self.assertEqual(raised(function, None), ("BadCustom", "form"))
            self.assertEqual(raised(function, custom=ELDEST[:3] + (None, None)), ("BadCustom", "read"))
        for function in (line_for, line_size, row_for, row_size, is_needed):
            name = "rank" if function in (line_for, line_size) else "stand"
            for value in (2, 8, -1, True, False, None, "0", (0,), [0], {}, 10 ** 900):
                self.assertEqual(raised(function, ELDEST, value), ("BadNumber", value))
                self.assertEqual(raised(function, custom=ELDEST, **{name: value}), ("BadNumber", value))
                self.assertEqual(raised(function, (), value), ("BadCustom", "form"))


if __name__ == "__main__":
    unittest.main()
