"""heirlines.bent: point [63]"""

import random
import unittest

from heirlines.bent import bent
from heirlines.deals import need_deal
from heirlines.factors import factor
from tests.helper import all_families, at, copied, dealt, grow, raised, random_deal, small_families, ways_of
from tests.interface_later import DEAL


def changed(founder, way, mark, is_alive=None):
    founder = copied(founder)
    at(founder, way).mark = mark
    if is_alive is not None:
        at(founder, way).is_alive = is_alive
    return founder


def without(founder, way):
    founder = copied(founder)
    at(founder, way[:-1]).children.pop(way[-1])
    return founder


def way_without(way, gone):
    """The way of another member where one without children is not there."""
    level = len(gone) - 1
    if len(way) > level and way[:level] == gone[:-1] and way[level] > gone[-1]:
        return way[:level] + (way[level] - 1,) + way[level + 1:]
    return way


def told(deal, word, old_mark, new_mark, founder):
    """What all members have ahead and behind, by the words of [63]."""
    ways = ways_of(founder)
    concerned = [way for way in ways if at(founder, way).mark == deal[0]]
    nothing = ({way: 0 for way in ways},) * 2
    if not concerned:
        return dealt(deal, founder), dealt(deal, founder)
    if len(concerned) > 1:
        return nothing
    way = concerned[0]
    member = at(founder, way)
    if word == "mark":
        return dealt(deal, changed(founder, way, old_mark)), dealt(deal, changed(founder, way, new_mark))
    if word == "death":
        if not member.is_alive:
            return nothing
        parts = [dealt(deal, changed(founder, way, old_mark, life)) for life in (True, False)]
    else:
        if member.children or way == () or member.is_alive != (word == "birth"):
            return nothing
        parent = at(founder, way[:-1])
        if word == "birth" and (not parent.is_alive or way[-1] != len(parent.children) - 1):
            return nothing
        there = dealt(deal, changed(founder, way, old_mark))
        gone = dealt(deal, without(founder, way))
        gone = {one: gone[way_without(one, way)] for one in ways if one != way}
        parts = [gone, there] if word == "birth" else [there, gone]
    for part in parts:
        part[way] = 0
    return tuple(parts)


class Bent(unittest.TestCase):

    def test_each_word_in_small_families(self):
        rng = random.Random(3600)
        founders = {marks: [grow(family) for family in all_families(3, marks + 1)] +
                    [grow(family) for family in small_families(3601, 120, 12, marks + 1, 6)] for marks in (1, 2)}
        for _ in range(24):
            marks = rng.choice((1, 2))
            deal = random_deal(rng, marks, rng.randint(1, 2), rng.randint(1, 3))
            for word in ("death", "birth", "mark", "left"):
                if word == "mark" and marks == 1:
                    continue
                old_mark = rng.randrange(marks)
                new_mark = 1 - old_mark if word == "mark" else None
                pair = bent(deal, word, old_mark, new_mark)
                self.assertEqual(len(pair), 2)
                for one in pair:
                    self.assertEqual(need_deal(one)[0], marks + 1)
                for founder in founders[marks]:
                    ahead, behind = told(deal, word, old_mark, new_mark, founder)
                    self.assertEqual(dealt(pair[0], founder), ahead, (word, deal))
                    self.assertEqual(dealt(pair[1], founder), behind, (word, deal))

    def test_what_a_deed_leaves(self):
        # all living members without children share alike
        leaves = (1, (1, 0), ((0, 0),), ((((1, "lost"),), ((0, "self"),)),))
        row = (1, (1, 1), ((1, 1), (1, 1)), ((((1, "lost"), (0, "lines")), ((0, "self"), (0, "lines"))),))
        ahead, behind = bent(row, "birth", 0)
        # a parent leads on what it has had
        self.assertEqual(factor(behind, ahead), (0, 1))
        ahead, behind = bent(leaves, "death", 0)
        self.assertEqual(factor(behind, ahead), (1, 1))
        ahead, behind = bent(row, "left", 0)
        self.assertEqual(factor(behind, ahead), (1, 1))

    def test_default_of_new_mark(self):
        self.assertEqual(bent(DEAL, "birth", 0), bent(DEAL, "birth", 0, new_mark=None))

    def test_errors_in_their_order(self):
        three = (3,) + DEAL[1:3] + (DEAL[3] * 3,)
        great = (3, (1,) * 4, ((0,) * 4,) * 3, ((((0, "lost"),) * 3,) * 2,) * 3)
        self.assertEqual(raised(bent, None, "x", 5, 5), ("BadDeal", "form"))
        self.assertEqual(raised(bent, great, "x", 5, 5), ("BadDeal", "marks"))
        self.assertEqual(raised(bent, three, "x", 5, 5), ("BadDeal", "marks"))
        self.assertEqual(raised(bent, (1,) + great[1:3] + (great[3][:1],), "x", 5, 5), ("BadDeal", "ranks"))
        self.assertEqual(raised(bent, DEAL, "x", 5, 5), ("BadDeed", "form"))
        self.assertEqual(raised(bent, DEAL, "mark", 1, 5), ("BadNumber", 1))
        two = (2,) + DEAL[1:3] + (DEAL[3] * 2,)
        for value in (None, 1, 2, True, "0"):
            self.assertEqual(raised(bent, two, "mark", 1, value), ("BadNumber", value))
        self.assertIsNone(raised(bent, two, "mark", 1, 0))
        self.assertEqual(raised(bent, DEAL, "mark", 0, 0), ("BadNumber", 0))
        self.assertEqual(raised(bent, two, "death", 1, 0), ("BadNumber", 0))
        self.assertEqual(raised(bent, DEAL, "mark", 0), ("BadNumber", None))


if __name__ == "__main__":
    unittest.main()
