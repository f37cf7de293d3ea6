"""heirlines.parted: points [36], [37] and [39]"""

import itertools
import unittest

from heirlines.customs import renumbered
from heirlines.pairs import line_pairs, sizes
from heirlines.parted import border, least_family, parting_family, parting_within, relations
from heirlines.shorts import short
from tests.helper import (ELDEST, NOBODY, YOUNGEST, Member, all_customs, all_families, big_customs, count_stands,
                          customs, grow, heir_in, raised, read_member, relation, size_of, tell)

WORDS = ("none", "first", "second", "same", "above", "below", "elder", "younger")


def most_children(member):
    return max([len(member.children)] + [most_children(child) for child in member.children])


def levels_of(member):
    return 1 + max([levels_of(child) for child in member.children], default=0)


def within(children, levels):
    """All members of one mark with at most so many children, on so many levels; no two read alike."""
    if levels == 0:
        return []
    below = within(children, levels - 1)
    found = []
    for many in range(children + 1 if below else 1):
        for row in itertools.product(below, repeat=many):
            found += [Member(0, is_alive, list(row)) for is_alive in (False, True)]
    return found


class Least(unittest.TestCase):

    def test_each_pair_is_shown_by_a_least_family(self):
        for one, two in list(zip(customs(600, 20, 2, 4), customs(601, 20, 2, 4))) + [(ELDEST, YOUNGEST)]:
            for pair, size in sizes(one, two):
                family = least_family(one, two, pair)
                self.assertEqual(short(family), family)
                self.assertEqual(size_of(family), size)
                if size < 1000:
                    first, second = read_member(one, grow(family)), read_member(two, grow(family))
                    self.assertEqual((first[0], second[0], relation(first[1], second[1])), pair)

    def test_what_is_no_pair(self):
        wrong = (None, 0, (), [], [0, 0, "none"], (0, 0), (0, 0, "none", 0), (True, 1, "same"), (False, 0, "none"),
                 (0, False, "none"), (2, 0, "none"), (-1, 0, "none"), (0, 0, "same"), (1, 1, "none"), (1, 1, []),
                 ([], 1, "same"), (1, {}, "same"), (1, 1, "younger"), (1, 0, "first"), (1, 1, "second"))
        for pair in wrong:
            self.assertEqual(raised(least_family, ELDEST, YOUNGEST, pair), ("BadNumber", pair))
        self.assertIsNone(raised(least_family, ELDEST, YOUNGEST, (1, 1, "above")))

    def test_parting_family(self):
        families = all_families(5, 1)
        for one, two in list(zip(customs(602, 30, 1, 3), customs(603, 30, 1, 3))) + [(ELDEST, YOUNGEST)]:
            sizes_of = [size_of(family) for family in families
                        if heir_in(one, grow(family)) != heir_in(two, grow(family))]
            told = parting_family(one, two)
            if told is None:
                self.assertEqual(sizes_of, [])
            elif sizes_of or size_of(told) <= 5:
                self.assertEqual(size_of(told), min(sizes_of))
                self.assertNotEqual(heir_in(one, grow(told)), heir_in(two, grow(told)))
        for custom in customs(604, 10, 3, 6):
            self.assertIsNone(parting_family(custom, custom))

    def test_relations(self):
        for one, two in zip(customs(605, 40, 2, 5), customs(606, 40, 2, 5)):
            shown = {pair[2] for pair in line_pairs(one, two)}
            self.assertEqual(relations(one, two), tuple(word for word in WORDS if word in shown))
        self.assertEqual(relations(ELDEST, YOUNGEST), ("none", "same", "above", "elder"))
        self.assertEqual(relations(YOUNGEST, ELDEST), ("none", "same", "below", "younger"))
        self.assertEqual(relations(NOBODY, ELDEST), ("none", "second"))


class Border(unittest.TestCase):

    def test_by_hand(self):
        self.assertEqual(border(ELDEST, ELDEST), ())
        self.assertEqual(border(ELDEST, NOBODY), ((0, 1),))
        self.assertEqual(border(ELDEST, YOUNGEST), ((1, 2),))
        for most in (1, 2, 3):
            # so many living childless children in a row make the difference
            self.assertEqual(border(count_stands(most), count_stands(most, False)), ((most, 2),))

    def test_against_all_small_families(self):
        bounds = [(children, levels) for children in range(4) for levels in range(1, 4)
                  if (children, levels) not in ((3, 3),)] + [(1, 4), (1, 5), (0, 4)]
        members = {bound: within(*bound) for bound in bounds}
        for one, two in list(zip(customs(607, 40, 1, 3), customs(608, 40, 1, 3))) + [(ELDEST, YOUNGEST)]:
            told = border(one, two)
            for children, levels in bounds:
                is_parted = any(heir_in(one, member) != heir_in(two, member) for member in members[children, levels])
                inside = any(pair[0] <= children and pair[1] <= levels for pair in told)
                self.assertIs(inside, is_parted)
                family = parting_within(one, two, children, levels)
                self.assertIs(family is not None, is_parted)
                if is_parted:
                    self.check(one, two, family, children, levels)

    def check(self, one, two, family, children, levels):
        self.assertEqual(short(family), family)
        member = grow(family)
        self.assertLessEqual(most_children(member), children)
        self.assertLessEqual(levels_of(member), levels)
        self.assertNotEqual(heir_in(one, member), heir_in(two, member))

    def test_on_the_border_and_just_within(self):
        pairs = 0
        for one, two in zip(customs(609, 150, 2, 4), customs(610, 150, 2, 4)):
            told = border(one, two)
            self.assertEqual(told, tuple(sorted(set(told))))
            self.assertEqual([pair[1] for pair in told], sorted({pair[1] for pair in told}, reverse=True))
            self.assertEqual(told == (), parting_family(one, two) is None)
            for children, levels in told:
                pairs += 1
                if levels < 8 and children < 4:
                    self.check(one, two, parting_within(one, two, children, levels), children, levels)
                self.assertIsNotNone(parting_within(one, two, children, levels))
                self.assertIsNotNone(parting_within(one, two, children + 1, levels + 1))
                if children > 0:
                    self.assertIsNone(parting_within(one, two, children - 1, levels))
                if levels > 1:
                    self.assertIsNone(parting_within(one, two, children, levels - 1))
            if told == ():
                self.assertIsNone(parting_within(one, two, 10 ** 900, 10 ** 900))
            else:
                self.assertIsNotNone(parting_within(one, two, 10 ** 900, 10 ** 900))
        self.assertGreater(pairs, 60)

    def test_several_corners(self):
        # a living founder is heir with three children, or with a child that has a grandchild; otherwise nobody is
        good = 5
        counted = {0: 1, 1: 3, 2: 4, 3: good, 4: good, good: good}
        higher = {0: 2, 1: 4, 2: 4, 3: good, 4: good, good: good}
        read = tuple(((counted[stand], "none"), (higher[stand], "none"), (good, "none"), (good, "none"))
                     for stand in range(6))
        height = (0, 1, 2, 1, 2, 2)
        dead = tuple((rank, "none") for rank in height)
        custom = (1, (False,) * 6, (False, False, False, True), read, ((dead, dead[:good] + ((3, "self"),)),))
        self.assertEqual(border(custom, NOBODY), ((1, 4), (3, 2)))
        self.assertEqual(border(NOBODY, custom), ((1, 4), (3, 2)))
        for children, levels in itertools.product(range(5), range(1, 6)):
            family = parting_within(custom, NOBODY, children, levels)
            is_within = (children >= 1 and levels >= 4) or (children >= 3 and levels >= 2)
            self.assertIs(family is not None, is_within)
            if is_within:
                self.check(custom, NOBODY, family, children, levels)

    def test_wrong_numbers(self):
        for children in (None, True, False, "0", (0,), [], -1, -10 ** 900):
            self.assertEqual(raised(border, ELDEST, NOBODY), None)
            self.assertEqual(raised(parting_within, ELDEST, YOUNGEST, children, 0), ("BadNumber", children))
        for levels in (None, True, False, "1", (1,), [], 0, -1):
            self.assertEqual(raised(parting_within, ELDEST, YOUNGEST, 0, levels), ("BadNumber", levels))
        self.assertIsNone(raised(parting_within, ELDEST, YOUNGEST, 0, 1))

    def test_too_great_behind_the_others(self):
        small, wide, high = all_customs(1, 1)[0], big_customs(612, 1, 1, 2, 8)[0], big_customs(613, 1, 1, 8, 2)[0]
        two = big_customs(614, 1, 1, 2, 2)[0]
        three = big_customs(615, 1, 1, 3, 3)[0]
        self.assertEqual([len(wide[1]), len(wide[2]), len(high[1]), len(high[2])], [2, 8, 8, 2])
        for one, other in ((wide, three), (three, wide), (high, three), (three, high), (wide, wide), (high, high)):
            self.assertEqual(raised(border, one, other), ("TooGreat", 16))
            self.assertEqual(raised(parting_within, one, other, 0, 1), ("TooGreat", 16))
            self.assertEqual(raised(parting_within, one, other, -1, 1), ("BadNumber", -1))
            self.assertEqual(raised(parting_within, one, other, 0, 0), ("BadNumber", 0))
            self.assertEqual(raised(border, one, big_customs(616, 1, 2)[0]), ("BadMarks", 2))
        for one, other in ((wide, two), (two, wide), (high, two), (two, high), (small, wide), (wide, high),
                           (big_customs(617, 1, 1, 4, 4)[0],) * 2):
            self.assertIsNone(raised(border, one, other))
            self.assertIsNone(raised(parting_within, one, other, 2, 2))


class WrongOnes(unittest.TestCase):

    def test_customs(self):
        two = big_customs(618, 1, 2)[0]
        for function, more in ((least_family, (None,)), (parting_family, ()), (relations, ()), (border, ()),
                               (parting_within, (None, None))):
            self.assertEqual(raised(function, None, None, *more), ("BadCustom", "form"))
            self.assertEqual(raised(function, two, ELDEST[:4] + (None,), *more), ("BadCustom", "close"))
            self.assertEqual(raised(function, ELDEST, two, *more), ("BadMarks", 2))

    def test_renumbered_ones_have_no_border(self):
        self.assertEqual(border(ELDEST, renumbered(ELDEST, (0, 1), (1, 0))), ())
        self.assertEqual(tell(Member(0, True, [])), ((0, True, ()),))


if __name__ == "__main__":
    unittest.main()
