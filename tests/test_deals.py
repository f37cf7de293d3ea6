"""heirlines.deals: point [57], and what is read by [58]"""

import random
import unittest

from heirlines.deals import dealt_lines, need_deal
from tests.helper import chain, deals, dealt_member, doubled, grow, random_family, raised, size_of, with_members

LEAF = (0, True, ())
# two marks: the children with the mark 1 get twice as much, a living member without children takes all
DEAL = (2, (1, 2), ((1, 1), (1, 1)),
        ((((0, "lost"), (0, "lines")), ((0, "self"), (0, "lines"))),
         (((1, "lost"), (1, "lines")), ((1, "self"), (1, "lines")))))


def changed(value, place, other):
    if not place:
        return other
    return value[:place[0]] + (changed(value[place[0]], place[1:], other),) + value[place[0] + 1:]


class NeedDeal(unittest.TestCase):

    def test_right_ones(self):
        self.assertIs(need_deal(DEAL), DEAL)
        self.assertIs(need_deal(deal=DEAL), DEAL)
        for deal in deals(2000, 40, 3, 8, 8):
            self.assertIs(need_deal(deal), deal)
        self.assertIsNone(raised(need_deal, (1, (0,) * 8, ((0,) * 8,), ((((7, "lost"),), ((7, "self"),)),))))
        self.assertIsNone(raised(need_deal, (1, (99,), ((7,),) * 8, ((((0, "lines"),) * 8, ((0, "lost"),) * 8),))))

    def check(self, values, word):
        for value in values:
            self.assertEqual(raised(need_deal, value), ("BadDeal", word), value)
            self.assertEqual(raised(dealt_lines, value, None), ("BadDeal", word))

    def test_form(self):
        self.check((None, 0, "", (), [], list(DEAL), DEAL[:3], DEAL + (0,), (0,) + DEAL[1:], (4,) + DEAL[1:],
                    (True,) + DEAL[1:], ("1",) + DEAL[1:], (None,) + DEAL[1:], (0, None, None, None)), "form")

    def test_weights(self):
        self.check([changed(DEAL, (1,), other) for other in (
            None, 0, [1, 2], (), (0,) * 9, (1, -1), (1, 100), (1, True), (1, None), (1, "2"), (1, (2,)))], "weights")
        self.check([(1, None, None, None)], "weights")

    def test_read(self):
        self.check([changed(DEAL, (2,), other) for other in (None, 0, [], (), ((0, 0),) * 9, list(DEAL[2]))], "read")
        self.check([changed(DEAL, (2, 1), other) for other in (
            None, 0, [1, 1], (), (1,), (1, 1, 1), (1, 2), (1, -1), (1, True), (1, None), (1, "0"))], "read")
        self.check([DEAL[:2] + (None, None)], "read")

    def test_close(self):
        self.check([changed(DEAL, (3,), other) for other in (None, 0, [], (), DEAL[3][:1], DEAL[3] * 2)], "close")
        for mark in (0, 1):
            self.check([changed(DEAL, (3, mark), other) for other in (
                None, (), DEAL[3][0][:1], DEAL[3][0] * 2, list(DEAL[3][0]))], "close")
            for life in (0, 1):
                self.check([changed(DEAL, (3, mark, life), other) for other in (
                    None, (), DEAL[3][0][0][:1], DEAL[3][0][0] * 2, list(DEAL[3][0][0]))], "close")
                self.check([changed(DEAL, (3, mark, life, 1), other) for other in (
                    None, (), (0,), (0, "lost", 0), [0, "lost"], (2, "lost"), (-1, "lost"), (True, "lost"), (0, "Lost"),
                    (0, None), (0, ["lost"]), (None, "lost"), (0, "line"), (0, "none"))], "close")
            self.check([changed(DEAL, (3, mark, 0, 0), (0, "self"))], "close")
            self.assertIsNone(raised(need_deal, changed(DEAL, (3, mark, 1, 1), (0, "self"))))


class DealtLines(unittest.TestCase):

    def test_needed_and_needless_lines(self):
        rng = random.Random(2001)
        for deal in deals(2002, 60, 3, 4, 4):
            family = random_family(rng, 8)
            told = dealt_lines(deal, family)
            self.assertEqual(len(told), len(family))
            for place, pair in enumerate(told):
                self.assertEqual(pair, dealt_member(deal, grow(family, place)))

    def test_by_hand(self):
        family = (LEAF, (1, True, ()), (1, False, ()), (0, True, (1, 0)), (0, False, (0, 1, 2)))
        self.assertEqual(dealt_lines(DEAL, family), ((0, "self"), (1, "self"), (1, "lost"), (0, "lines"),
                                                     (0, "lines")))

    def test_great_ones(self):
        self.assertEqual(dealt_lines(DEAL, doubled(198))[-1], (0, "lines"))
        self.assertEqual(len(dealt_lines(DEAL, with_members(10 ** 60))), len(with_members(10 ** 60)))
        self.assertEqual(len(dealt_lines(DEAL, chain(2000))), 2000)
        self.assertGreater(size_of(doubled(198)), 10 ** 59)

    def test_families(self):
        for family, place in ((None, None), ((), None), ([LEAF], None), ((LEAF, (2, True, (0,))), 1),
                              (((3, True, ()),), 0), ((LEAF, (0, True, (1,))), 1), (with_members(10 ** 60 + 1), None)):
            self.assertEqual(raised(dealt_lines, DEAL, family), ("BadFamily", place))
        one = (1,) + DEAL[1:3] + (DEAL[3][:1],)
        self.assertEqual(raised(dealt_lines, one, (LEAF, (1, True, ()))), ("BadFamily", 1))


if __name__ == "__main__":
    unittest.main()
