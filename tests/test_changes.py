"""heirlines.changes: point [23]"""

import random
import unittest

from heirlines.changes import marked, put_everywhere, put_in, put_under, taken_out
from heirlines.counts import how_many, places
from heirlines.shorts import short
from heirlines.ways import line_at
from tests.helper import (at, chain, copied, doubled, great_family, grow, nested, raised, retold, size_of,
                          small_families, tell, ways_of, with_members)

LEAF = (0, True, ())
OTHERS = (((1, False, ()),), ((0, True, ()), (2, True, (0, 0))))


class Small(unittest.TestCase):

    def test_put_in(self):
        for family in small_families(40, 50, most=20):
            for way in ways_of(grow(family)):
                for other in OTHERS:
                    founder = grow(family)
                    if way == ():
                        founder = grow(other)
                    else:
                        at(founder, way[:-1]).children[way[-1]] = grow(other)
                    self.assertEqual(put_in(family, way, other), tell(founder))

    def test_put_under(self):
        for family in small_families(41, 50, most=20):
            for way in ways_of(grow(family)):
                many = len(at(grow(family), way).children)
                for number in range(many + 1):
                    founder = grow(family)
                    at(founder, way).children.insert(number, grow(OTHERS[1]))
                    self.assertEqual(put_under(family, way, number, OTHERS[1]), tell(founder))
                self.assertEqual(raised(put_under, family, way, many + 1, OTHERS[0]), ("BadNumber", many + 1))

    def test_taken_out(self):
        for family in small_families(42, 50, most=20):
            for way in ways_of(grow(family))[1:]:
                founder = grow(family)
                del at(founder, way[:-1]).children[way[-1]]
                self.assertEqual(taken_out(family, way), tell(founder))
            self.assertEqual(raised(taken_out, family, ()), ("BadWay", ()))

    def test_marked(self):
        for family in small_families(43, 50, most=20):
            for way in ways_of(grow(family)):
                for mark in (0, 1, 2):
                    for is_alive in (True, False):
                        founder = grow(family)
                        at(founder, way).mark, at(founder, way).is_alive = mark, is_alive
                        self.assertEqual(marked(family, way, mark, is_alive), tell(founder))

    def replaced(self, member, other, new):
        if nested(member) == other:
            return copied(new)
        member.children = [self.replaced(child, other, new) for child in member.children]
        return member

    def test_put_everywhere(self):
        for family in small_families(44, 50, most=20, marks=2):
            for way in ways_of(grow(family)):
                other = line_at(family, way)
                for new in OTHERS + (family, ((0, True, ()), (0, True, (0,)))):
                    expected = self.replaced(grow(family), nested(grow(other)), grow(new))
                    self.assertEqual(put_everywhere(family, retold(other, 1), new), tell(expected))

    def test_put_everywhere_is_done_all_at_once(self):
        family = (LEAF, (0, True, (0,)))
        self.assertEqual(put_everywhere(family, (LEAF,), family), chain(3))
        self.assertEqual(put_everywhere(family, family, (LEAF,)), (LEAF,))
        self.assertEqual(put_everywhere((LEAF, (0, True, (0, 0))), (LEAF,), (LEAF, (0, True, (0, 0)))), doubled(3))
        self.assertEqual(put_everywhere(family, ((1, True, ()),), chain(9)), family)

    def test_needless_lines_are_left_out(self):
        told = doubled(300) + ((1, True, ()), (1, False, (300,)))
        self.assertEqual(marked(told, (), 0, True), ((1, True, ()), (0, True, (0,))))
        self.assertEqual(put_in(told, (0,), told), ((1, True, ()), (1, False, (0,)), (1, False, (1,))))


class PutBack(unittest.TestCase):

    def test_put_everywhere_and_back(self):
        new = ((2, False, ()), (1, False, (0, 0, 0)), (2, True, (1,)))
        for family in [great_family(45), doubled(150)] + small_families(46, 30):
            ways = [(0,) * level for level in range(1, 4)]
            for way in ways:
                if how_many(family) > 4 and self.has(family, way):
                    other = line_at(family, way)
                    self.assertEqual(places(family, new), 0)
                    changed = put_everywhere(family, other, new)
                    many = places(family, other)
                    self.assertEqual(places(changed, new), many)
                    self.assertEqual(size_of(changed) - size_of(family), many * (size_of(new) - size_of(other)))
                    self.assertEqual(put_everywhere(changed, new, other), short(family))

    def has(self, family, way):
        at_line = len(family) - 1
        for place in way:
            if place >= len(family[at_line][2]):
                return False
            at_line = family[at_line][2][place]
        return True

    def test_put_under_and_taken_out(self):
        family = great_family(47)
        for way in ((), (0,), (0, 0)):
            many = len(line_at(family, way)[-1][2])
            for number in (0, many):
                changed = put_under(family, way, number, OTHERS[1])
                self.assertEqual(line_at(changed, way + (number,)), OTHERS[1])
                self.assertEqual(taken_out(changed, way + (number,)), short(family))

    def test_put_in_and_back(self):
        family = great_family(48)
        way = (0,) * 10
        changed = put_in(family, way, OTHERS[1])
        self.assertEqual(line_at(changed, way), OTHERS[1])
        self.assertEqual(put_in(changed, way, line_at(family, way)), short(family))

    def test_long_ones(self):
        self.assertEqual(marked(chain(2000), (0,) * 1999, 1, False), ((1, False, ()),) + chain(2000)[1:])
        self.assertEqual(taken_out(chain(2000), (0,) * 1999), chain(1999))
        self.assertEqual(put_in(chain(2000), (0,) * 10, chain(1990)), chain(2000))
        self.assertEqual(put_under(chain(1999), (0,) * 1998, 0, chain(1)), chain(2000))


class Bounds(unittest.TestCase):

    def test_600_children(self):
        wide = (LEAF, (0, True, (0,) * 600))
        narrow = (LEAF, (0, True, (0,) * 599))
        self.assertEqual(put_under(narrow, (), 599, (LEAF,)), wide)
        for number in (0, 300, 600):
            self.assertEqual(raised(put_under, wide, (), number, (LEAF,)), ("TooGreat", 600))
        self.assertEqual(raised(put_under, wide + ((0, True, (1,)),), (0,), 3, (LEAF,)), ("TooGreat", 600))

    def test_members(self):
        most = with_members(10 ** 60)
        less = with_members(10 ** 60 - 1)
        self.assertEqual(size_of(put_under(less, (), 0, (LEAF,))), 10 ** 60)
        self.assertEqual(raised(put_under, most, (), 0, (LEAF,)), ("TooGreat", 10 ** 60))
        self.assertEqual(raised(put_in, (LEAF, (0, True, (0, 0))), (0,), most), ("TooGreat", 10 ** 60))
        self.assertEqual(size_of(put_in((LEAF, (0, True, (0,))), (0,), less)), 10 ** 60)
        self.assertEqual(raised(put_everywhere, doubled(120), (LEAF,), doubled(120)), ("TooGreat", 10 ** 60))

    def test_lines(self):
        self.assertEqual(len(put_under(chain(1999), (), 0, ((1, True, ()),))), 2000)
        self.assertEqual(raised(put_under, chain(2000), (), 0, ((1, True, ()),)), ("TooGreat", 2000))
        self.assertEqual(raised(marked, (LEAF,) + self.padded(), (0,) * 30, 1, True), ("TooGreat", 2000))
        self.assertEqual(raised(taken_out, (LEAF,) + self.padded(), (0,) * 30), ("TooGreat", 2000))
        self.assertEqual(raised(put_everywhere, chain(1001), (LEAF,), chain(1001)), ("TooGreat", 2000))
        self.assertEqual(len(put_everywhere(chain(1000), (LEAF,), chain(1001))), 2000)
        self.assertEqual(raised(put_in, chain(2000), (0,) * 1999, ((1, True, ()), (1, True, (0,)))),
                         ("TooGreat", 2000))

    def padded(self):
        """Lines behind one leaf: 100 doubled ones with a long line beside them, 2000 lines in all."""
        told = [(0, True, (number, number)) for number in range(99)]
        told += [(1, True, (0,))]
        told += [(1, True, (number,)) for number in range(100, 1998)]
        return tuple(told) + ((0, True, (99, len(told))),)

    def test_children_come_ahead_of_members(self):
        wide = tuple((0, True, (number,) * 600) if number >= 0 else LEAF for number in range(-1, 21))
        self.assertEqual(raised(put_under, wide, (), 0, wide), ("TooGreat", 600))
        self.assertEqual(raised(put_under, wide, (0,), 0, with_members(10 ** 60)), ("TooGreat", 600))
        self.assertEqual(raised(put_in, doubled(199), (0,) * 50, doubled(199)), ("TooGreat", 10 ** 60))

    def test_members_come_ahead_of_lines(self):
        long = tuple([(1, True, ())] + [(1, True, (number,)) for number in range(1999)])
        most = with_members(10 ** 60)
        self.assertEqual(raised(put_in, long, (0,) * 1999, most), ("TooGreat", 10 ** 60))
        wide = long[:-1] + ((1, True, (1998,) * 600),)
        self.assertEqual(raised(put_under, wide, (), 0, most), ("TooGreat", 600))

    def test_bounds_come_behind_the_errors_of_all_arguments(self):
        wide = (LEAF, (0, True, (0,) * 600))
        self.assertEqual(raised(put_under, wide, (), 0, None), ("BadFamily", None))
        self.assertEqual(raised(put_under, wide, (), 601, None), ("BadNumber", 601))
        self.assertEqual(raised(put_everywhere, doubled(120), (LEAF,), (1,)), ("BadFamily", 0))


class WrongOnes(unittest.TestCase):

    def check(self, function, good, wrong):
        self.assertIsNone(raised(function, *good))
        for first in range(len(good)):
            for value, told in wrong[first]:
                for second in range(first, len(good)):
                    arguments = list(good)
                    arguments[second] = wrong[second][0][0]
                    arguments[first] = value
                    self.assertEqual(raised(function, *arguments), told)

    def test_all(self):
        family = chain(3)
        families = [(value, ("BadFamily", None)) for value in (None, 0, True, [], (), list(family))]
        families.append(((LEAF, LEAF, None), ("BadFamily", 2)))
        ways = [(value, ("BadWay", value)) for value in (None, 0, True, [0], (1,), (0, 0, 0), ("0",), (False,))]
        numbers = [(value, ("BadNumber", value)) for value in (-1, 2, True, None, "0", (0,), 10 ** 900)]
        marks = [(value, ("BadNumber", value)) for value in (-1, 3, True, None, "0", (0,))]
        truths = [(value, ("BadNumber", value)) for value in (0, 1, None, "True", ())]
        self.check(put_in, (family, (0,), family), (families, ways, families))
        self.check(put_under, (family, (0,), 1, family), (families, ways, numbers, families))
        self.check(taken_out, (family, (0,)), (families, ways + [((), ("BadWay", ()))]))
        self.check(marked, (family, (0,), 0, True), (families, ways, marks, truths))
        self.check(put_everywhere, (family, family, family), (families, families, families))

    def test_by_name(self):
        family = chain(3)
        self.assertEqual(put_in(other=(LEAF,), way=(0,), family=family), chain(2))
        self.assertEqual(put_under(other=(LEAF,), number=0, way=(0, 0), family=family), chain(4))
        self.assertEqual(taken_out(way=(0,), family=family), chain(1))
        self.assertEqual(marked(is_alive=False, mark=2, way=(), family=chain(1)), ((2, False, ()),))
        self.assertEqual(put_everywhere(new_family=(LEAF,), other=chain(2), family=family), chain(2))

    def test_arguments_stay_as_they_are(self):
        rng = random.Random(1)
        family = small_families(49, 1)[0]
        before = repr(family)
        put_in(family, (), OTHERS[0])
        marked(family, (), rng.randrange(3), False)
        self.assertEqual(repr(family), before)


if __name__ == "__main__":
    unittest.main()
