"""heirlines.shares: points [58] and [59]"""

import math
import random
import unittest
from fractions import Fraction

from heirlines.shares import paid, receivers, share, shares
from tests.helper import (at, deals, dealt, doubled, great_family, grow, members_by_line, raised, retold, size_of,
                          small_families, ways_of, with_members)
from tests.test_deals import DEAL

LEAF = (0, True, ())
# a living childless member takes all; a rank for the number of children, up to 2; weights 1, 3 and 0
COUNT = (1, (1, 3, 0), ((1,) * 3, (2,) * 3, (2,) * 3),
         ((((0, "lost"), (1, "lines"), (2, "lines")), ((0, "self"), (1, "lines"), (2, "lines"))),))


class Small(unittest.TestCase):

    def test_member_by_member(self):
        rng = random.Random(2100)
        for deal in deals(2101, 120, 3, 4, 4):
            for family in small_families(rng.randrange(10 ** 6), 3, most=40):
                family = tuple((mark % deal[0], is_alive, children) for mark, is_alive, children in family)
                told = dealt(deal, grow(family))
                self.check(deal, family, told)
                if deal[0] == 3:
                    self.check(deal, retold(family, 5), told)

    def check(self, deal, family, told):
        founder = grow(family)
        for way in ways_of(founder):
            self.assertEqual(share(deal, family, way), (told[way].numerator, told[way].denominator))
        self.assertEqual(shares(deal, family), tuple((way, (part.numerator, part.denominator))
                                                     for way, part in sorted(told.items()) if part > 0))
        sums = [Fraction(0)] * deal[0]
        for way, part in told.items():
            sums[at(founder, way).mark] += part
        self.assertEqual(paid(deal, family), tuple((part.numerator, part.denominator) for part in sums))
        self.assertEqual(receivers(deal, family), sum(1 for part in told.values() if part > 0))

    def test_by_hand(self):
        family = (LEAF, (1, True, ()), (1, False, ()), (0, True, (1, 0)), (0, False, (0, 1, 2, 3)))
        self.assertEqual(shares(DEAL, family), (((0,), (1, 6)), ((1,), (1, 3)), ((3, 0), (1, 9)), ((3, 1), (1, 18))))
        self.assertEqual(share(DEAL, family, (2,)), (0, 1))
        self.assertEqual(share(DEAL, family, ()), (0, 1))
        self.assertEqual(paid(DEAL, family), ((2, 9), (4, 9)))
        self.assertEqual(receivers(DEAL, family), 4)
        self.assertEqual(shares(DEAL, (LEAF,)), (((), (1, 1)),))
        self.assertEqual(shares(DEAL, ((0, False, ()),)), ())
        self.assertEqual(paid(DEAL, ((0, False, ()),)), ((0, 1), (0, 1)))

    def test_a_sum_of_weights_of_0(self):
        # both children have two children each, and so the weight 0
        family = (LEAF, (0, True, (0, 0)), (0, True, (1, 1)))
        self.assertEqual(shares(COUNT, family), ())
        self.assertEqual(paid(COUNT, family), ((0, 1),))
        self.assertEqual(receivers(COUNT, family), 0)
        self.assertEqual(share(COUNT, family, (0, 0)), (0, 1))
        # beside one that has a weight they have nothing
        family = (LEAF, (0, True, (0, 0)), (0, True, (1, 0, 1)))
        self.assertEqual(shares(COUNT, family), (((1,), (1, 1)),))
        # "lines" without children
        nobody = (1, (1,), ((0,),), ((((0, "lines"),), ((0, "lines"),)),))
        self.assertEqual(shares(nobody, (LEAF, (0, True, (0, 0)))), ())
        self.assertEqual(share(nobody, (LEAF,), ()), (0, 1))

    def test_below_one_that_takes_all(self):
        takes = (1, (1,), ((0,),), ((((0, "lines"),), ((0, "self"),)),))
        family = (LEAF, (0, True, (0,)), (0, False, (1, 0)))
        self.assertEqual(shares(takes, family), (((0,), (1, 2)), ((1,), (1, 2))))
        self.assertEqual(share(takes, family, (0, 0)), (0, 1))
        self.assertEqual(receivers(takes, family), 2)


class Great(unittest.TestCase):

    def test_doubled_ones(self):
        family = doubled(198)
        self.assertEqual(share(DEAL, family, (0, 1) * 98 + (0,)), (1, 2 ** 197))
        self.assertEqual(share(DEAL, family, (0, 1) * 98), (0, 1))
        self.assertEqual(paid(DEAL, family), ((1, 1), (0, 1)))
        self.assertEqual(receivers(DEAL, family), 2 ** 197)
        self.assertEqual(receivers(DEAL, with_members(10 ** 60)), sum(
            many for line, many in zip(with_members(10 ** 60), members_by_line(with_members(10 ** 60))) if not line[2]))

    def test_line_by_line(self):
        for seed, deal in enumerate(deals(2102, 40, 3, 5, 5)):
            family = great_family(seed, low=10 ** 40)
            # by going down: how much comes to all members of a line together
            taken = [(0, "")] * len(family)
            for place in range(len(family)):
                stand = 0
                for child in family[place][2]:
                    stand = deal[2][stand][taken[child][0]]
                taken[place] = deal[3][family[place][0]][int(family[place][1])][stand]
            comes = [Fraction(0)] * len(family)
            comes[-1] = Fraction(1)
            sums = [Fraction(0)] * 3
            many = [0] * len(family)
            many[-1] = 1
            told = 0
            mark = 3 if deal[0] == 3 else deal[0]
            if any(line[0] >= mark for line in family):
                continue
            for place in reversed(range(len(family))):
                if taken[place][1] == "self":
                    sums[family[place][0]] += comes[place]
                    told += many[place]
                weights = [deal[1][taken[child][0]] for child in family[place][2]]
                if taken[place][1] == "lines" and sum(weights):
                    for child, weight in zip(family[place][2], weights):
                        comes[child] += comes[place] * weight / sum(weights)
                        many[child] += many[place] * (weight > 0)
            self.assertEqual(paid(deal, family), tuple((part.numerator, part.denominator) for part in sums[:deal[0]]))
            self.assertEqual(receivers(deal, family), told)


class Bounds(unittest.TestCase):

    def test_300_members(self):
        wide = (LEAF, (0, True, (0,) * 299))
        self.assertEqual(len(shares(DEAL, wide)), 299)
        self.assertEqual(shares(DEAL, wide)[0], ((0,), (1, 299)))
        self.assertEqual(raised(shares, DEAL, (LEAF, (0, True, (0,) * 300))), ("TooGreat", 300))
        self.assertEqual(share(DEAL, (LEAF, (0, True, (0,) * 300)), (299,)), (1, 300))

    def halves(self, levels, wide=1):
        """On each level one childless member, or so many, beside the next level."""
        lines = [LEAF]
        for number in range(levels):
            lines.append((0, True, (0,) * wide + (number,)))
        return tuple(lines)

    def test_1000_figures(self):
        # the line below has as much as each of three leaves: the founder's leaf 1 / 4, the next one 1 / 16
        levels = 0
        while 4 ** (levels + 1) < 10 ** 1000:
            levels += 1
        family = self.halves(levels + 1, 3)
        deep = (3,) * levels
        self.assertEqual(share(DEAL, family, deep[:-1] + (0,)), (1, 4 ** levels))
        self.assertEqual(raised(share, DEAL, family, deep + (0,)), ("TooGreat", 1000))
        self.assertEqual(share(DEAL, family, deep), (0, 1))
        self.assertEqual(raised(share, DEAL, family, (4,)), ("BadWay", (4,)))
        # all together have the whole
        self.assertEqual(paid(DEAL, family), ((1, 1), (0, 1)))
        self.assertEqual(receivers(DEAL, family), 3 * (levels + 1) + 1)
        # a member with the mark 1 at the end
        lines = [(1, True, ()), LEAF] + [(0, True, (1, 1, 1, number + 1 if number else 0)) for number in range(levels)]
        self.assertIsNone(raised(paid, DEAL, tuple(lines[:levels - 10])))
        lines += [(0, True, (1, 1, 1, levels + 1)), (0, True, (1, 1, 1, levels + 2))]
        self.assertEqual(raised(paid, DEAL, tuple(lines)), ("TooGreat", 1000))

    def test_denominators_at_the_bound(self):
        # tens: nine leaves beside the line below
        family = self.halves(1001, 9)
        self.assertEqual(share(DEAL, family, (9,) * 998 + (0,)), (1, 10 ** 999))
        self.assertEqual(raised(share, DEAL, family, (9,) * 999 + (0,)), ("TooGreat", 1000))
        self.assertEqual(receivers(DEAL, family), 1001 * 9 + 1)

    def test_shares_with_many_figures(self):
        # 60 levels below one another, each with weights whose sum is a prime of its own
        weights = (97, 1, 0, 0, 0, 0, 0, 0)
        deal = (1, weights, ((1,) * 8,) * 2, ((((0, "lost"), (1, "lines")), ((0, "self"), (1, "lines"))),))
        lines = [LEAF]
        for number in range(99):
            lines.append((0, True, (0, 0, number)))
        self.assertEqual(size_of(tuple(lines)), 298)
        told = dict(shares(deal, tuple(lines)))
        self.assertEqual(told[(0,)], (97, 195))
        self.assertEqual(told[(2,) * 98 + (0,)], (1, 195 ** 98 * 3))
        self.assertEqual(math.gcd(*told[(2,) * 50 + (1,)]), 1)

    def test_wrong_ones(self):
        for function, more in ((share, (None,)), (shares, ()), (paid, ()), (receivers, ())):
            self.assertEqual(raised(function, None, None, *more), ("BadDeal", "form"))
            self.assertEqual(raised(function, DEAL[:3] + (None,), None, *more), ("BadDeal", "close"))
            self.assertEqual(raised(function, DEAL, ((2, True, ()),), *more), ("BadFamily", 0))
            self.assertEqual(raised(function, DEAL, with_members(10 ** 60 + 1), *more), ("BadFamily", None))
        for way in (None, 0, [], "", (0,), (True,), (-1,), ((),)):
            self.assertEqual(raised(share, DEAL, (LEAF,), way), ("BadWay", way))


if __name__ == "__main__":
    unittest.main()
