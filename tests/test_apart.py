"""heirlines.apart: points [41] and [43]"""

import itertools
import random
import unittest

from heirlines.apart import (check_size, line_outcome, parting_of_ranks, parting_of_stands, put_row, row_outcome,
                             size_paper, taking)
from heirlines.least import like_lots, size_of
from heirlines.reached import is_needed, line_for, line_size, reached_ranks, reached_stands, row_for, row_size
from heirlines.shorts import short
from tests import helper
from tests.helper import (ELDEST, NOBODY, YOUNGEST, all_families, at, big_customs, chain, customs, doubled, grow,
                          heir_in, raised, read_member, small_families, tell, ways_of, with_states_twice)

LEAF = (0, True, ())
DEAD = (0, False, ())
FAMILY = (LEAF, (0, False, (0, 0)), (0, True, (1, 0)))


def slow_line_outcome(custom, family, way, line):
    founder = grow(family)
    if way == ():
        founder = grow(line)
    else:
        at(founder, way[:-1]).children[way[-1]] = grow(line)
    heir = heir_in(custom, founder)
    return "inside" if heir is not None and heir[:len(way)] == way else heir


def slow_row_outcome(custom, family, way, row):
    founder = grow(family)
    member = at(founder, way)
    member.children = [grow(line) for line in row] + member.children
    heir = heir_in(custom, founder)
    if heir is None or len(heir) <= len(way) or heir[:len(way)] != way:
        return heir
    number = heir[len(way)]
    return "inside" if number < len(row) else way + (number - len(row),) + heir[len(way) + 1:]


class PutRow(unittest.TestCase):

    def test_small_ones(self):
        rng = random.Random(900)
        for family in small_families(901, 40, most=20):
            founder = grow(family)
            for way in ways_of(founder):
                row = tuple(small_families(rng.randrange(1000), rng.randint(0, 8), most=6))
                founder = grow(family)
                member = at(founder, way)
                member.children = [grow(line) for line in row] + member.children
                self.assertEqual(put_row(family, way, row), tell(founder))

    def test_bounds(self):
        wide = (LEAF, (0, True, (0,) * 592))
        self.assertEqual(put_row(wide, (), ((LEAF,),) * 8), (LEAF, (0, True, (0,) * 600)))
        self.assertEqual(raised(put_row, wide + ((0, True, (1, 0, 1)),), (2,), ((LEAF,),) * 8), None)
        wide = (LEAF, (0, True, (0,) * 593))
        self.assertEqual(raised(put_row, wide, (), ((LEAF,),) * 8), ("TooGreat", 600))
        self.assertEqual(raised(put_row, wide, (), ((LEAF,),) * 8 + (None,)), ("BadRow", None))
        self.assertEqual(raised(put_row, wide, (), ((LEAF,),) * 7 + (None,)), ("BadRow", 7))
        # the member alone is asked, and it comes ahead of the lines
        self.assertEqual(len(put_row(wide, (0,), ((LEAF,),) * 8)), 3)
        long = chain(1990, 1) + ((0, True, ()), (0, True, (1989, 1990) + (0,) * 591))
        self.assertEqual(raised(put_row, long, (), ((LEAF,),) * 8), ("TooGreat", 600))
        rows = tuple(chain(many, 2) for many in (1, 9))
        self.assertEqual(len(put_row(chain(1991), (), rows)), 2000)
        self.assertEqual(raised(put_row, chain(1992), (), rows), ("TooGreat", 2000))
        self.assertEqual(raised(put_row, chain(2000), (0, 0), ()), None)

    def test_any_number_of_members(self):
        great = doubled(300)
        self.assertEqual(len(put_row(great, (0, 1), (great, (DEAD,)))), 304)
        self.assertEqual(line_outcome(ELDEST, great, (0,), great), ())
        self.assertEqual(line_outcome(ELDEST, ((0, False, ()),), (), great), "inside")
        self.assertEqual(row_outcome(ELDEST, ((0, False, ()),), (), (great,)), "inside")
        self.assertEqual(row_outcome(ELDEST, great, (), (great,)), ())


class Outcomes(unittest.TestCase):

    def test_against_members(self):
        rng = random.Random(902)
        for custom in [ELDEST, YOUNGEST, NOBODY] + customs(903, 20, 2, 5):
            families = small_families(904, 8, most=9, marks=custom[0])
            for family in families:
                for way in ways_of(grow(family)):
                    line = rng.choice(families)
                    row = tuple(rng.choice(families) for _ in range(rng.randint(0, 8)))
                    self.assertEqual(line_outcome(custom, family, way, line),
                                     slow_line_outcome(custom, family, way, line))
                    self.assertEqual(row_outcome(custom, family, way, row),
                                     slow_row_outcome(custom, family, way, row))

    def test_by_hand(self):
        dead = (DEAD, LEAF, (0, False, (0, 1)))
        self.assertEqual(line_outcome(ELDEST, dead, (0,), (LEAF,)), "inside")
        self.assertEqual(line_outcome(ELDEST, dead, (0,), (DEAD,)), (1,))
        self.assertEqual(line_outcome(ELDEST, dead, (1,), (DEAD,)), None)
        self.assertEqual(line_outcome(ELDEST, FAMILY, (1,), (DEAD,)), ())
        self.assertEqual(row_outcome(ELDEST, dead, (), ((LEAF,), (DEAD,))), "inside")
        self.assertEqual(row_outcome(ELDEST, dead, (), ((DEAD,),) * 8), (1,))
        self.assertEqual(row_outcome(ELDEST, dead, (), ()), (1,))
        self.assertEqual(row_outcome(ELDEST, dead, (1,), ((LEAF,),)), (1,))
        self.assertEqual(row_outcome(NOBODY, dead, (1,), ((LEAF,),)), None)

    def test_more_children_than_a_line_has(self):
        wide = (LEAF, (0, False, (0,) * 600))
        self.assertEqual(row_outcome(ELDEST, wide, (), ((DEAD,),) * 8), (0,))
        self.assertEqual(row_outcome(YOUNGEST, wide, (), ((DEAD,),) * 8), (599,))


class Parting(unittest.TestCase):

    def places(self, families):
        return [(family, way) for family in families for way in ways_of(grow(family))]

    def lines_by_rank(self, custom):
        return {rank: line_for(custom, rank) for rank in reached_ranks(custom) if line_size(custom, rank) < 100}

    def rows_by_stand(self, custom):
        return {stand: row_for(custom, stand) for stand in reached_stands(custom) if row_size(custom, stand) < 100}

    def test_ranks_against_all_small_families(self):
        places = [(family, way) for family, way in self.places(all_families(4, 1))
                  if tell(at(grow(family), way)) == (DEAD,)]
        for custom in [ELDEST, YOUNGEST] + customs(910, 25, 1, 4):
            lines = self.lines_by_rank(custom)
            shown = [{rank: slow_line_outcome(custom, family, way, line) for rank, line in lines.items()}
                     for family, way in places]
            for one, two in itertools.product(lines, repeat=2):
                sizes = [helper.size_of(place[0]) for place, outcomes in zip(places, shown)
                         if outcomes[one] != outcomes[two]]
                self.check(parting_of_ranks(custom, one, two), sizes)

    def test_stands_against_all_small_families(self):
        places = self.places(all_families(3, 1))
        for custom in [ELDEST, YOUNGEST] + customs(911, 25, 1, 4):
            rows = self.rows_by_stand(custom)
            shown = [{stand: slow_row_outcome(custom, family, way, row) for stand, row in rows.items()}
                     for family, way in places]
            for one, two in itertools.product(rows, repeat=2):
                sizes = [helper.size_of(place[0]) for place, outcomes in zip(places, shown)
                         if outcomes[one] != outcomes[two]]
                self.check(parting_of_stands(custom, one, two), sizes, 3)
            for stand in rows:
                sizes = [helper.size_of(place[0]) for place, outcomes in zip(places, shown)
                         if outcomes[stand] == "inside"]
                self.check(taking(custom, stand), sizes, 3)

    def check(self, told, sizes, most=4):
        if told is None:
            self.assertEqual(sizes, [])
        elif sizes or helper.size_of(told[0]) <= most:
            self.assertEqual(helper.size_of(told[0]), min(sizes))

    def test_they_part(self):
        rng = random.Random(912)
        told = customs(913, 30, 2, 6) + big_customs(914, 4) + [with_states_twice(custom, rng)
                                                              for custom in customs(915, 20, 1, 5)]
        for custom in told:
            stand_lots, rank_lots = like_lots(custom)
            lines, rows = self.lines_by_rank(custom), self.rows_by_stand(custom)
            for one, two in itertools.product(lines, repeat=2):
                told = parting_of_ranks(custom, one, two)
                self.assertIs(told is None, any(one in lot and two in lot for lot in rank_lots))
                if told is not None:
                    family, way = told
                    self.assertEqual(short(family), family)
                    self.assertEqual(tell(at(grow(family), way)), (DEAD,))
                    self.assertNotEqual(line_outcome(custom, family, way, lines[one]),
                                        line_outcome(custom, family, way, lines[two]))
            for one, two in itertools.product(rows, repeat=2):
                told = parting_of_stands(custom, one, two)
                self.assertIs(told is None, any(one in lot and two in lot for lot in stand_lots))
                if told is not None:
                    self.assertEqual(short(told[0]), told[0])
                    self.assertNotEqual(row_outcome(custom, *told, rows[one]), row_outcome(custom, *told, rows[two]))
            for stand in rows:
                told = taking(custom, stand)
                self.assertIs(told is not None, is_needed(custom, stand))
                if told is not None:
                    self.assertEqual(short(told[0]), told[0])
                    self.assertEqual(row_outcome(custom, *told, rows[stand]), "inside")

    def test_any_two_lines_and_rows(self):
        families = all_families(4, 1)
        for custom in [ELDEST, YOUNGEST] + customs(916, 12, 1, 4):
            ranks = {family: read_member(custom, grow(family))[0] for family in families}
            for one, two in itertools.combinations(sorted(set(ranks.values())), 2):
                told = parting_of_ranks(custom, one, two)
                if told is None:
                    continue
                outcomes = {rank: {line_outcome(custom, *told, family) for family in families
                                   if ranks[family] == rank} for rank in (one, two)}
                self.assertEqual([len(outcomes[rank]) for rank in (one, two)], [1, 1])
                self.assertNotEqual(outcomes[one], outcomes[two])

    def test_what_is_not_reached(self):
        custom = (1, (False, True, False), (False, True, False),
                  (((0, "none"), (1, "new"), (2, "none")), ((1, "old"), (1, "old"), (1, "old")), ((2, "none"),) * 3),
                  ((((0, "none"), (1, "line"), (2, "none")), ((1, "self"), (1, "self"), (2, "none"))),))
        for function in (parting_of_ranks, parting_of_stands):
            for value in (2, 3, -1, True, False, None, "0", (0,), [], {}, 10 ** 900):
                self.assertEqual(raised(function, custom, value, None), ("BadNumber", value))
                self.assertEqual(raised(function, custom, 1, value), ("BadNumber", value))
                self.assertEqual(raised(function, None, value, value), ("BadCustom", "form"))
            self.assertIsNone(function(custom, 1, 1))
        for value in (2, 3, -1, True, None, "0", (0,), [], {}):
            self.assertEqual(raised(taking, custom, value), ("BadNumber", value))

    def test_by_hand(self):
        self.assertEqual(parting_of_ranks(ELDEST, 0, 1), ((DEAD,), ()))
        self.assertEqual(parting_of_stands(ELDEST, 0, 1), ((DEAD,), ()))
        self.assertEqual(taking(ELDEST, 1), ((DEAD,), ()))
        self.assertIsNone(taking(ELDEST, 0))
        # living ones alone lead on
        living = (1, (False, True), (False, True), YOUNGEST[3],
                  ((((0, "none"), (0, "none")), ((1, "self"), (1, "line"))),))
        self.assertEqual(taking(living, 1), ((LEAF,), ()))


class SizePapers(unittest.TestCase):

    def test_right_ones(self):
        rng = random.Random(917)
        for custom in customs(918, 40, 2, 6) + big_customs(919, 5) + [with_states_twice(one, rng)
                                                                     for one in customs(920, 20, 3, 5)]:
            lines, rows, line_tests, row_tests = size_paper(custom)
            self.assertEqual((len(rows), len(lines)), size_of(custom))
            self.assertEqual(check_size(custom, size_paper(custom)), size_of(custom))
            self.assertEqual(len(line_tests), len(lines) * (len(lines) - 1) // 2)
            self.assertEqual(len(row_tests), len(rows) * (len(rows) - 1) // 2)
            for row in rows:
                self.assertLessEqual(len(row), 8)
            for family in lines + tuple(line for row in rows for line in row):
                self.assertEqual(short(family), family)
            for family, way in line_tests + row_tests:
                self.assertEqual(short(family), family)
                self.assertIn(way, ways_of(grow(family)))

    def test_form(self):
        lines, rows, line_tests, row_tests = size_paper(ELDEST)
        good = (lines, rows, line_tests, row_tests)
        self.assertEqual(check_size(ELDEST, good), (2, 2))
        other = ((1, True, ()),)
        wrong = [None, 0, "", (), [], list(good), good[:3], good + ((),)]
        for place in range(4):
            for value in (None, 0, "paper", list(good[place]), good[place] + (None,), good[place] + good[place][:1],
                          (other,) + good[place][1:], (None,) + good[place][1:], good[place][:-1]):
                wrong.append(good[:place] + (value,) + good[place + 1:])
        test, way = line_tests[0]
        for value in ((test,), (test, way, way), [test, way], (test, None), (test, (0,)), (test, [0]), (None, way),
                      (other, ()), (test, (True,))):
            wrong.append((lines, rows, (value,), row_tests))
            wrong.append((lines, rows, line_tests, (value,)))
        wrong.append((lines, (rows[0], (other,)), line_tests, row_tests))
        wrong.append((lines, (rows[0], ((LEAF,),) * 9), line_tests, row_tests))
        wrong.append((lines, (rows[0], [(LEAF,)]), line_tests, row_tests))
        for paper in wrong:
            self.assertEqual(raised(check_size, ELDEST, paper), ("BadPaper", "form"), paper)

    def test_lines_and_rows(self):
        place = ((LEAF,), ())
        # the same OUTCOME for both lines, for both rows
        lines, rows, line_tests, row_tests = size_paper(ELDEST)
        self.assertEqual(raised(check_size, ELDEST, (lines[:1] * 2, rows, line_tests, row_tests)),
                         ("BadPaper", "lines"))
        self.assertEqual(raised(check_size, ELDEST, (lines, rows[:1] * 2, line_tests, row_tests)),
                         ("BadPaper", "rows"))
        self.assertEqual(raised(check_size, ELDEST, (lines, rows, line_tests, (place,))), ("BadPaper", "rows"))
        self.assertEqual(raised(check_size, ELDEST, (lines[:1] * 2, rows[:1] * 2, line_tests, row_tests)),
                         ("BadPaper", "lines"))
        self.assertEqual(raised(check_size, paper=(lines[:1] * 2, rows, line_tests, ()), custom=ELDEST),
                         ("BadPaper", "form"))

    def test_smaller_ones_are_right(self):
        lines, rows, line_tests, row_tests = size_paper(big_customs(921, 1)[0])
        custom = big_customs(921, 1)[0]
        self.assertEqual(check_size(custom, ((), (), (), ())), (0, 0))
        self.assertEqual(check_size(custom, (lines[:1], rows[:2], (), row_tests[:1])), (2, 1))
        self.assertEqual(check_size(custom, (lines[:3], (), line_tests[:2] + line_tests[len(lines) - 1:len(lines)],
                                             ())), (0, 3))

    def test_any_number_of_members(self):
        great = doubled(300)
        place = ((DEAD,), ())
        self.assertEqual(check_size(ELDEST, ((great, (DEAD,)), ((great,), ()), (place,), (place,))), (2, 2))
        # a founder that lives is heir whatever is put in below
        paper = ((great, (DEAD,)), (), ((great, (0, 0)),), ())
        self.assertEqual(raised(check_size, ELDEST, paper), ("BadPaper", "lines"))


class WrongOnes(unittest.TestCase):

    def test_marks(self):
        other = ((1, True, ()),)
        self.assertEqual(raised(line_outcome, ELDEST, other, (), (LEAF,)), ("BadFamily", 0))
        self.assertEqual(raised(line_outcome, ELDEST, (LEAF,), (), (LEAF, (1, True, (0,)))), ("BadFamily", 1))
        self.assertEqual(raised(row_outcome, ELDEST, other, None, None), ("BadFamily", 0))
        self.assertEqual(raised(row_outcome, ELDEST, (LEAF,), (), ((LEAF,), other)), ("BadRow", 1))
        self.assertEqual(raised(put_row, (LEAF,), (), (((2, True, ()),), ((3, True, ()),))), ("BadRow", 1))

    def test_ways_come_ahead_of_what_is_put_in(self):
        for way in (None, (0,), [], (True,)):
            self.assertEqual(raised(line_outcome, ELDEST, (LEAF,), way, None), ("BadWay", way))
            self.assertEqual(raised(row_outcome, ELDEST, (LEAF,), way, None), ("BadWay", way))
            self.assertEqual(raised(put_row, (LEAF,), way, None), ("BadWay", way))


if __name__ == "__main__":
    unittest.main()
