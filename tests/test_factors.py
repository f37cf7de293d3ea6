"""heirlines.factors and heirlines.growing: points [60], [61] and [62]"""

import random
import unittest
from fractions import Fraction

from heirlines.factors import bound, deals_alike, factor, is_bound
from heirlines.growing import growth, grown, limit
from heirlines.shares import share
from tests.helper import (Member, all_families, at, chain, dealt, dealt_member, doubled, grow, raised, random_deal,
                          size_of, tell, with_members)
from tests.interface_deals import GROWTH, HALF
from tests.interface_later import DEAL

LEAF = (0, True, ())
# a living member without children takes all; all children have the weight of their rank
SPLIT = (2, (1, 1), ((0, 0),), ((((0, "lost"),), ((0, "self"),)), (((1, "lines"),), ((1, "lines"),))))
HEAVY = (2, (3, 1)) + SPLIT[2:]
# a member of the mark 1 leads on to its children, and counts as much as a leaf does
THIRD = (2, (1, 2)) + SPLIT[2:]
DOUBLE = (1, (4, 2)) + DEAL[2:]
NOTHING = (1, (1,), ((0,),), ((((0, "lost"),),) * 2,))
SELF = (1, (1,), ((0,),), ((((0, "lost"),), ((0, "self"),)),))


def positive_deal(rng, marks, stands, ranks):
    """A deal by which nothing is lost but by who has no children."""
    weights = tuple(rng.randint(1, 5) for _ in range(ranks))
    read = tuple(tuple(rng.randrange(stands) for _ in range(ranks)) for _ in range(stands))
    close = tuple((tuple((rng.randrange(ranks), "lines") for _ in range(stands)),
                   tuple((rng.randrange(ranks), rng.choice(("lines", "self"))) for _ in range(stands)))
                  for _ in range(marks))
    return (marks, weights, read, close)


def other_weights(rng, deal):
    return (deal[0], tuple(rng.randint(1, 5) for _ in deal[1])) + deal[2:]


def pairs_of_deals(seed, many, marks=1):
    rng = random.Random(seed)
    for _ in range(many):
        stands, ranks = rng.randint(1, 3), rng.randint(1, 4)
        if rng.random() < 0.3:
            yield random_deal(rng, marks, stands, ranks), random_deal(rng, marks, stands, ranks)
        else:
            deal = positive_deal(rng, marks, stands, ranks)
            yield deal, (other_weights(rng, deal) if rng.random() < 0.8 else positive_deal(rng, marks, stands, ranks))


def quotients(deal, other, founder):
    """What each member has by the first deal, divided by what it has by the second one."""
    first, second = dealt(deal, founder), dealt(other, founder)
    return [first[way] / part for way, part in second.items() if part > 0]


def is_reached(paper):
    return paper[2] == () and all(step[3] == () for step in paper[1])


class Factor(unittest.TestCase):

    def test_all_small_families(self):
        for marks, most, many in ((1, 5, 120), (2, 3, 60)):
            founders = [grow(family) for family in all_families(most, marks)]
            for deal, other in pairs_of_deals(3000 + marks, many, marks):
                told = factor(deal, other)
                least, by_ranks = None, {}
                for founder in founders:
                    parts = quotients(deal, other, founder)
                    if parts:
                        ranks = (dealt_member(deal, founder)[0], dealt_member(other, founder)[0])
                        by_ranks[ranks] = min(parts + [by_ranks.get(ranks, parts[0])])
                        least = min(parts + ([] if least is None else [least]))
                if told is None:
                    self.assertIsNone(least)
                    self.assertIsNone(bound(deal, other))
                    continue
                self.assertEqual((Fraction(*told).numerator, Fraction(*told).denominator), told)
                self.assertTrue(0 <= Fraction(*told) <= 1)
                if least is not None:
                    self.assertLessEqual(Fraction(*told), least)
                numbers = dict(bound(deal, other)[1])
                for ranks, part in by_ranks.items():
                    self.assertLessEqual(Fraction(*numbers[ranks]), part)

    def test_by_hand(self):
        self.assertEqual(factor(SPLIT, SPLIT), (1, 1))
        self.assertEqual(factor(SELF, NOTHING), None)
        self.assertEqual(factor(NOTHING, SELF), (0, 1))
        self.assertEqual(factor(HEAVY, SPLIT), (0, 1))
        self.assertEqual(factor(DEAL, HALF), (0, 1))
        self.assertEqual(factor(DEAL, DOUBLE), (1, 1))
        # leaves alone share with leaves; a lead line may have a leaf's part or half of it, again and again
        self.assertEqual(factor(SPLIT, THIRD), (0, 1))

    def test_no_row_reaches_a_limit(self):
        # a leaf of the weight 1, or 2, among ever more dead lines of the weight 3, or 1
        deal = (1, (1, 3), ((0, 0),), ((((1, "lines"),), ((0, "self"),)),))
        other = (1, (2, 1)) + deal[2:]
        self.assertEqual(factor(deal, other), (1, 6))
        self.assertFalse(is_reached(growth(deal, other)))
        two = (2, (1, 3, 3), ((0,) * 3,), ((((2, "lines"),), ((0, "self"),)), (((2, "lines"),), ((1, "self"),))))
        three = (2, (1, 1, 1)) + two[2:]
        # a leaf of the weight 1 among many of the weight 3
        self.assertEqual(factor(two, three), (1, 3))
        self.assertFalse(is_reached(growth(two, three)))
        self.assertEqual(bound(two, three), ((1, 3), (((0, 0), (1, 1)), ((1, 1), (1, 1)), ((2, 2), (1, 3)))))

    def test_alike(self):
        self.assertTrue(deals_alike(SPLIT, SPLIT))
        self.assertTrue(deals_alike(NOTHING, NOTHING))
        self.assertTrue(deals_alike(DEAL, DOUBLE))
        self.assertFalse(deals_alike(SELF, NOTHING))
        self.assertFalse(deals_alike(NOTHING, SELF))
        self.assertFalse(deals_alike(SPLIT, HEAVY))
        founders = [grow(family) for family in all_families(4, 1)]
        for deal, other in pairs_of_deals(3100, 60):
            if deals_alike(deal, other):
                for founder in founders:
                    self.assertEqual(dealt(deal, founder), dealt(other, founder))
            else:
                self.assertTrue({factor(deal, other), factor(other, deal)} - {(1, 1)})

    def test_great_deals(self):
        rng = random.Random(3200)
        for _ in range(2):
            deal = random_deal(rng, 3, 8, 8)
            other = random_deal(rng, 3, 8, 8)
            self.assertTrue(is_bound(deal, other, bound(deal, other)))
        deal = positive_deal(rng, 3, 8, 8)
        other = other_weights(rng, deal)
        self.assertEqual(limit(deal, other, growth(deal, other)), factor(deal, other))
        self.assertTrue(is_bound(deal, other, bound(deal, other)))

    def test_unlike_marks_come_behind_both(self):
        for function in (factor, deals_alike, bound, growth):
            self.assertEqual(raised(function, DEAL, SPLIT), ("BadMarks", 2))
            self.assertEqual(raised(function, SPLIT, DEAL), ("BadMarks", 1))
            self.assertEqual(raised(function, DEAL, SPLIT[:3] + (None,)), ("BadDeal", "close"))
        self.assertEqual(raised(is_bound, DEAL, SPLIT, None), ("BadMarks", 2))
        self.assertEqual(raised(limit, DEAL, SPLIT, None), ("BadMarks", 2))


def leaves_deal(weights, looks, leads, takes, row_takes):
    """A deal whose ranks 0, 1, .. are those of leaves of so many looks (mark, life), the last ones those of parents.

    leads has for some (stand, rank) the stand behind; all other children lead to the last stand, where all is lost.
    row_takes has for a stand the rank of a dead parent of the mark 0 who leads on.
    """
    stands = max(list(leads.values()) + list(row_takes)) + 2
    ranks = len(weights)
    read = tuple(tuple(leads.get((stand, rank), stands - 1) for rank in range(ranks)) for stand in range(stands))
    close = [[[(ranks - 1, "lost")] * stands for _ in (0, 1)] for _ in range(3)]
    for rank, (mark, life) in enumerate(looks):
        close[mark][life][0] = (rank, takes[rank])
    for stand, rank in row_takes.items():
        close[0][0][stand] = (rank, "lines")
    return (3, weights, read, tuple(tuple(tuple(row) for row in pair) for pair in close))


# leaves: a living one of each mark, a dead one of the marks 0 and 1
LOOKS = ((0, 1), (0, 0), (1, 1), (1, 0), (2, 1))


class Shaped(unittest.TestCase):
    """Deals whose rows can just have some shapes."""

    def check(self, deal, other, told, is_told_reached):
        self.assertEqual(factor(deal, other), told)
        paper = growth(deal, other)
        self.assertEqual(limit(deal, other, paper), told)
        self.assertIs(is_reached(paper), is_told_reached)
        self.assertEqual(bound(deal, other)[0], told)
        self.assertTrue(is_bound(deal, other, bound(deal, other)))
        return bound(deal, other)[1]

    def test_a_cheaper_row_that_has_no_such_child(self):
        # to the stand 1 there are the rows (0) and (1, 2, 2, .., 3): 0 is never among the 2s
        leads = {(0, 0): 1, (0, 1): 2, (2, 2): 2, (2, 3): 1}
        for weight, least in ((1, (1, 9)), (0, (0, 1))):
            takes = ("self",) + ("lost",) * 4
            deal = leaves_deal((1, 1, 9, 1, 1, 0), LOOKS, leads, takes, {1: 4})
            other = leaves_deal((1, 1, weight, 1, 1, 0), LOOKS, leads, takes, {1: 4})
            self.assertEqual(dict(self.check(deal, other, (1, 1), True))[(4, 4)], (1, 1))
            # the last one of the longer row has something, too
            looks = ((0, 1), (0, 0), (1, 0), (1, 1), (2, 1))
            takes = ("self", "lost", "lost", "self", "lost")
            deal = leaves_deal((1, 1, 9, 1, 1, 0), looks, leads, takes, {1: 4})
            other = leaves_deal((1, 1, weight, 1, 1, 0), looks, leads, takes, {1: 4})
            numbers = dict(self.check(deal, other, least, False))
            self.assertEqual((numbers[(0, 0)], numbers[(3, 3)], numbers[(4, 4)]), ((1, 1), (1, 1), least))

    def test_a_row_that_reaches_what_a_loop_tends_to(self):
        # (0, 1, 1, ..) with the weights 1 and 3 beside 1 and 1, and (0, 2) with 1 and 2 beside 1 and 0
        for first, second in ((1, 2), (2, 1)):
            leads = {(0, 0): 1, (1, first): 1, (1, second): 2}
            takes = ("self",) + ("lost",) * 4
            weights = {first: 3, second: 2}
            for ranks in ({1: 3, 2: 4}, {1: 4, 2: 3}):
                deal = leaves_deal((1, weights[1], weights[2], 0, 0, 0), LOOKS, leads, takes, ranks)
                far = leaves_deal((1, weights[1] - 2, weights[2] - 2, 0, 0, 0), LOOKS, leads, takes, ranks)
                numbers = dict(self.check(deal, far, (1, 3), True))
                self.assertEqual((numbers[(3, 3)], numbers[(4, 4)]), ((1, 3), (1, 3)))
            # the loop alone
            alone = {(0, 0): 1, (1, first): 1}
            deal = leaves_deal((1, weights[1], weights[2], 0, 0, 0), LOOKS, alone, takes, {1: 3})
            far = leaves_deal((1, weights[1] - 2, weights[2] - 2, 0, 0, 0), LOOKS, alone, takes, {1: 3})
            self.check(deal, far, (1, 3), False)

    def test_rows_that_come_together(self):
        # (0) and (1, 0) lead to the same stand; what is ahead of the told child counts, too
        for many in (1, 2, 3):
            leads = {(0, 0): many + 1, (many, 0): many + 1}
            leads.update({(stand, 1): stand + 1 for stand in range(many)})
            takes = ("self",) + ("lost",) * 4
            deal = leaves_deal((1, 3, 1, 1, 1, 0), LOOKS, leads, takes, {many + 1: 3})
            other = leaves_deal((1, 1, 1, 1, 1, 0), LOOKS, leads, takes, {many + 1: 3})
            self.check(deal, other, Fraction(many + 1, 3 * many + 1).as_integer_ratio(), True)
            self.check(other, deal, (1, 1), True)


class Bounds(unittest.TestCase):

    def test_the_bound_shows_the_factor(self):
        for deal, other in pairs_of_deals(3300, 150):
            paper = bound(deal, other)
            if paper is None:
                self.assertFalse(is_bound(deal, other, ((0, 1), ())))
                self.assertFalse(is_bound(deal, other, ((1, 1), (((0, 0), (1, 1)),))))
                continue
            self.assertEqual(paper[0], factor(deal, other))
            self.assertTrue(is_bound(deal, other, paper))
            self.check_changed(deal, other, paper)

    def check_changed(self, deal, other, paper):
        numbers = paper[1]

        def told(parts):
            least = min(Fraction(*part) for _, part in parts)
            return ((least.numerator, least.denominator), tuple(parts))

        for place, (ranks, (upper, lower)) in enumerate(numbers):
            more = Fraction(upper, lower) + Fraction(1, 7)
            raised_one = numbers[:place] + ((ranks, (more.numerator, more.denominator)),) + numbers[place + 1:]
            self.assertFalse(is_bound(deal, other, told(raised_one)))
            left = numbers[:place] + numbers[place + 1:]
            if left:
                self.assertFalse(is_bound(deal, other, told(left)))
        halves = tuple((ranks, (Fraction(*part) / 2).as_integer_ratio()) for ranks, part in numbers)
        self.assertTrue(is_bound(deal, other, told(halves)))
        self.assertFalse(is_bound(deal, other, ((1, 997), numbers)))
        for _, part in numbers:
            self.assertIs(is_bound(deal, other, (part, numbers)), part == paper[0])
        if len(numbers) > 1:
            self.assertFalse(is_bound(deal, other, (paper[0], numbers[1:] + numbers[:1])))
            self.assertFalse(is_bound(deal, other, (paper[0], numbers + numbers[:1])))

    def test_pairs_that_no_line_has(self):
        # the rank 1 is never come to
        deal = (1, (1, 1), ((0, 0),), ((((0, "lost"),), ((0, "self"),)),))
        self.assertEqual(bound(deal, deal), ((1, 1), (((0, 0), (1, 1)),)))
        self.assertFalse(is_bound(deal, deal, ((1, 1), (((0, 0), (1, 1)), ((1, 1), (1, 1))))))
        self.assertFalse(is_bound(deal, deal, ((1, 1), ())))

    def test_more_than_1_for_some_ranks(self):
        # by the second deal half of what comes to a dead member's row is lost
        deal = (1, (1, 0), ((1, 1), (1, 1)), ((((1, "lost"), (0, "lines")), ((0, "self"), (0, "lines"))),))
        other = (1, (1, 1)) + deal[2:]
        paper = bound(deal, other)
        self.assertEqual(paper[0], (1, 1))
        self.assertTrue(is_bound(deal, other, paper))


class Growing(unittest.TestCase):

    def test_limits_and_growths(self):
        kinds = set()
        for deal, other in pairs_of_deals(3400, 250):
            told = factor(deal, other)
            paper = growth(deal, other)
            if told is None:
                self.assertIsNone(paper)
                continue
            self.assertEqual(limit(deal, other, paper), told)
            kinds.add((told == (0, 1), told == (1, 1), is_reached(paper), paper[2] != ()))
            parts = []
            for many in (1, 2, 6):
                if raised(grown, paper, many) is None:
                    family, way = grown(paper, many)
                    parts.append(Fraction(*share(deal, family, way)) / Fraction(*share(other, family, way)))
            if is_reached(paper):
                self.assertEqual(set(parts), {Fraction(*told)})
            else:
                self.assertTrue(all(part > Fraction(*told) for part in parts))
                # steps that stand many times may begin with more, as their loops are short then
                if paper[2] == ():
                    self.assertTrue(all(parts[at] > parts[at + 1] for at in range(len(parts) - 1)))
        self.assertTrue({(False, True, True, False), (True, False, True, False), (True, False, False, True),
                         (False, False, False, False)} <= kinds)

    def test_reached_exactly_if_told_so(self):
        founders = [grow(family) for family in all_families(5, 1)]
        for deal, other in pairs_of_deals(3500, 100):
            told = factor(deal, other)
            if told is not None and not is_reached(growth(deal, other)):
                for founder in founders:
                    self.assertTrue(all(part > Fraction(*told) for part in quotients(deal, other, founder)))

    def build(self, paper, many):
        """The founder, and the told one's way, by the words of [61]."""
        lines, chain_told, again = paper
        steps = list(chain_told)
        if again:
            steps = steps[:again[0]] + steps[again[0]:again[1]] * many + steps[again[1]:]
        own, way = None, ()
        for mark, is_alive, before, loop, after in steps:
            children = list(before) + list(loop) * many + list(after)
            if -1 in children:
                way = (children.index(-1),) + way
            own = Member(mark, is_alive, [own if child == -1 else grow(lines, child) for child in children])
        return own, way

    def test_told_growths_are_grown(self):
        grown_often = 0
        for deal, other in pairs_of_deals(3600, 120):
            paper = growth(deal, other)
            for many in (1, 2, 40) if paper is not None else ():
                told = raised(grown, paper, many)
                if told is None and size_of(grown(paper, many)[0]) < 3000:
                    founder, way = self.build(paper, many)
                    self.assertEqual(grown(paper, many), (tell(founder), way))
                    grown_often += many == 40
                elif told is not None:
                    self.assertIn(told, (("TooGreat", 600), ("TooGreat", 10 ** 60), ("TooGreat", 2000)))
        self.assertGreater(grown_often, 30)

    def test_grown_by_hand(self):
        dead = (1, False, ())
        paper = ((LEAF, dead, (2, True, (0, 1))),
                 ((0, True, (0,), (), (1,)), (1, True, (2, 0), (1, 0), (-1,)), (0, False, (-1,), (), (2,)),
                  (2, True, (), (0,), (-1, 0))), (1, 3))
        for many in (1, 2, 40):
            founder, way = self.build(paper, many)
            self.assertEqual(grown(paper, many), (tell(founder), way))
            self.assertEqual(at(founder, way).mark, 0)
        for again in ((), (1, 2), (1, 4), (2, 4), (3, 4)):
            for many in (1, 3):
                founder, way = self.build(paper[:2] + (again,), many)
                self.assertEqual(grown(paper[:2] + (again,), many), (tell(founder), way))
        self.assertEqual(grown(((), ((0, True, (), (), ()),), ()), 40), ((LEAF,), ()))

    def test_too_great(self):
        step = (0, True, (), (), ())
        for before, after in (((-1,), ()), ((), (-1,))):
            wide = ((LEAF,), (step, (0, True, before, (0,) * 20, after)), ())
            self.assertIsNone(raised(grown, wide, 29))
            self.assertEqual(raised(grown, wide, 30), ("TooGreat", 600))
        # as many as may be: children of a member, numbers in a row, lines, steps
        self.assertEqual(len(grown(((LEAF,), (step, (0, True, (-1,), (0,) * 599, ())), ()), 1)[0][-1][2]), 600)
        self.assertEqual(len(grown(((LEAF,), (step, (0, True, (-1,) + (0,) * 599, (), ())), ()), 1)[0][-1][2]), 600)
        self.assertEqual(len(grown(((LEAF,), ((0, True, (0,) * 600, (), ()),), ()), 1)[0][-1][2]), 600)
        self.assertEqual(grown((chain(2000), (step,), ()), 1), ((LEAF,), ()))
        lines = with_members(10 ** 60 - 1)
        most = (lines, (step, (0, True, (-1,), (), ())), ())
        self.assertIsNone(raised(grown, most, 1))
        self.assertEqual(raised(grown, (lines, (step, (0, True, (-1, len(lines) - 1), (), ())), ()), 1),
                         ("TooGreat", 10 ** 60))
        again = (0, True, (-1,), (), ())
        long = ((), (step,) + (again,) * 199, (1, 200))
        self.assertIsNone(raised(grown, long, 10))
        self.assertEqual(raised(grown, long, 11), ("TooGreat", 2000))
        both = (doubled(250), ((0, True, (0,) * 300, (), ()), (0, True, (-1,), (0,) * 20, (249,))), ())
        self.assertEqual(raised(grown, both, 40), ("TooGreat", 600))
        self.assertEqual(raised(grown, both, 1), ("TooGreat", 10 ** 60))
        self.assertEqual(raised(grown, (doubled(300), long[1], (1, 200)), 11), ("TooGreat", 2000))
        self.assertEqual(raised(grown, (chain(2001), long[1], ()), 1), ("BadPaper", "growth"))

    def test_what_limit_refuses(self):
        good = ((LEAF,), ((0, True, (), (), ()), (0, False, (-1,), (0,), ())), ())
        deal = (1, (1,), ((0,),), ((((0, "lines"),), ((0, "self"),)),))
        self.assertEqual(limit(deal, deal, good), (1, 1))
        refused = ("BadPaper", "growth")
        self.assertEqual(raised(limit, deal, deal, (good[0] + ((1, True, ()),), good[1], ())), refused)
        self.assertEqual(raised(limit, deal, deal, (good[0], good[1] + ((1, True, (-1,), (), ()),), ())), refused)
        # a loop that leads elsewhere, and back
        turning = (1, (1,), ((1,), (0,)), ((((0, "lines"),) * 2, ((0, "self"),) * 2),))
        self.assertEqual(raised(limit, turning, deal, good), refused)
        self.assertEqual(raised(limit, deal, turning, good), refused)
        twice = (good[0], good[1][:1] + ((0, False, (-1,), (0, 0), ()),), ())
        self.assertEqual(limit(turning, turning, twice), (1, 1))
        # a loop without weight
        light = (1, (1, 0), ((0, 0),), ((((1, "lines"),), ((0, "self"),)),))
        heavy = (1, (1, 1)) + light[2:]
        dead = (((0, False, ()),), good[1], ())
        self.assertEqual(raised(limit, light, heavy, dead), refused)
        # by the other deal with the weight 1, but not by the first one, the loop takes nothing
        self.assertEqual(limit(heavy, light, dead), (0, 1))
        # nothing for the told one by the other deal
        self.assertEqual(raised(limit, deal, deal, (good[0], ((0, False, (), (), ()),) + good[1][1:], ())), refused)
        self.assertEqual(raised(limit, deal, deal, (good[0], good[1][:1] + ((0, True, (-1,), (), ()),), ())), refused)
        above = good[1] + ((0, False, (-1,), (), ()), (0, False, (0, -1), (), ()))
        self.assertEqual(raised(limit, light, light, (good[0], above, ())), refused)

    def test_again(self):
        deal = (1, (1, 1), ((0, 0),), ((((1, "lines"),), ((0, "self"),)),))
        other = (1, (1, 2)) + deal[2:]
        steps = ((0, True, (), (), ()), (0, False, (-1,), (), ()), (0, False, (-1, 0), (), ()))
        # 1 / 2 beside 2 / 3
        self.assertEqual(limit(deal, other, ((LEAF,), steps, ())), (3, 4))
        self.assertEqual(limit(deal, other, ((LEAF,), steps, (2, 3))), (0, 1))
        refused = ("BadPaper", "growth")
        self.assertEqual(raised(limit, deal, other, ((LEAF,), steps, (1, 3))), refused)
        self.assertEqual(raised(limit, deal, deal, ((LEAF,), steps, (2, 3))), refused)
        self.assertEqual(raised(limit, other, deal, ((LEAF,), steps, (2, 3))), refused)
        self.assertEqual(raised(limit, deal, other, ((LEAF,), steps, (1, 2))), refused)

    def test_grown_takes_any_marks(self):
        self.assertEqual(grown(GROWTH, 1), grown(GROWTH, 40))
        self.assertEqual(limit(DEAL, HALF, GROWTH), (1, 1))


if __name__ == "__main__":
    unittest.main()
