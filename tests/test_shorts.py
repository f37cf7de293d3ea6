"""heirlines.shorts: points [12] and [22]"""

import itertools
import random
import unittest

from heirlines.shorts import first_apart, in_both, read_alike, settled, short
from tests.helper import (all_families, at, chain, copied, doubled, great_family, grow, nested, raised, retold,
                          size_of, small_families, tell, unordered, ways_of, with_members)

LEAF = (0, True, ())


class Short(unittest.TestCase):

    def test_the_example(self):
        self.assertEqual(short(((0, True, ()), (0, True, ()), (0, False, (0, 1)))),
                         ((0, True, ()), (0, False, (0, 0))))

    def test_the_order_in_which_lines_are_finished(self):
        family = ((0, True, ()), (1, True, ()), (2, True, (0, 1)), (2, False, (1, 2)), (0, True, (3, 2, 0)))
        self.assertEqual(short(family), ((1, True, ()), (0, True, ()), (2, True, (1, 0)), (2, False, (0, 2)),
                                         (0, True, (3, 2, 1))))

    def test_small_ones_member_by_member(self):
        for family in small_families(5, 200):
            self.assertEqual(short(family), tell(grow(family)))

    def test_however_they_are_told(self):
        for number, family in enumerate(small_families(6, 60) + [great_family(6)]):
            told = retold(family, number)
            self.assertEqual(short(told), short(family))
            self.assertTrue(read_alike(family, told))
            self.assertEqual(short(short(told)), short(told))

    def test_all_lines_are_plain(self):
        for line in short(((0, True, ()), (1, False, (0,)))):
            self.assertEqual([type(part) for part in line], [int, bool, tuple])

    def test_long_ones(self):
        self.assertEqual(short(chain(2000)), chain(2000))
        self.assertEqual(short(doubled(199)), doubled(199))
        self.assertEqual(size_of(short(with_members(10 ** 60))), 10 ** 60)

    def test_wrong_ones(self):
        for function in (short, settled):
            self.assertEqual(raised(function, None), ("BadFamily", None))
            self.assertEqual(raised(function, (LEAF, 1)), ("BadFamily", 1))
        for function in (read_alike, first_apart, in_both):
            self.assertEqual(raised(function, None, (1,)), ("BadFamily", None))
            self.assertEqual(raised(function, (LEAF,), (LEAF, 1)), ("BadFamily", 1))
            self.assertEqual(raised(function, other=[], family=(LEAF,)), ("BadFamily", None))


class Apart(unittest.TestCase):

    def pairs(self):
        families = all_families(3, 1)
        found = list(itertools.product(families, families))
        many = small_families(7, 60, most=25, marks=2)
        found += list(zip(many, many[1:]))
        for family in many:
            founder = grow(family)
            way = ways_of(founder)[-1]
            at(founder, way).is_alive = not at(founder, way).is_alive
            found.append((family, tell(founder)))
        return found

    def test_small_ones(self):
        for family, other in self.pairs():
            one, two = grow(family), grow(other)
            shared = [way for way in ways_of(one) if way in ways_of(two)]
            alike = [way for way in shared if nested(at(one, way)) == nested(at(two, way))]
            unlike = [way for way in shared if self.look(at(one, way)) != self.look(at(two, way))]
            self.assertEqual(in_both(family, other), (len(shared), len(alike), len(unlike)))
            self.assertEqual(first_apart(family, other), min(unlike) if unlike else None)
            self.assertEqual(read_alike(family, other), not unlike)
            self.assertEqual(read_alike(family, other), short(family) == short(other))

    def look(self, member):
        return member.mark, member.is_alive, len(member.children)

    def test_long_ones(self):
        one, two = chain(2000), chain(1999)
        self.assertEqual(first_apart(one, two), (0,) * 1998)
        self.assertEqual(in_both(one, two), (1999, 0, 1))
        self.assertEqual(in_both(one, one), (2000, 2000, 0))
        other = ((1, True, ()),) + one[1:]
        self.assertEqual(first_apart(one, other), (0,) * 1999)

    def test_great_ones(self):
        one = doubled(150)
        other = ((0, False, ()),) + one[1:]
        self.assertEqual(first_apart(one, other), (0,) * 149)
        many = 2 ** 150 - 1
        self.assertEqual(in_both(one, other), (many, 0, 2 ** 149))
        shorter = doubled(149)
        self.assertEqual(in_both(one, shorter), (2 ** 149 - 1, 0, 2 ** 148))
        last = one[:-1] + ((0, True, (148,)),)
        self.assertEqual(first_apart(one, last), ())
        self.assertEqual(in_both(one, last), (2 ** 149, 2 ** 149 - 1, 1))

    def test_facts_on_great_ones(self):
        one, two = great_family(8), great_family(9)
        shared, alike, unlike = in_both(one, two)
        self.assertEqual(in_both(two, one), (shared, alike, unlike))
        self.assertLessEqual(shared, min(size_of(one), size_of(two)))
        self.assertEqual(in_both(one, retold(one, 3)), (size_of(one), size_of(one), 0))


class Settled(unittest.TestCase):

    def rearranged(self, family, seed):
        rng = random.Random(seed)
        founder = copied(grow(family))
        waiting = [founder]
        while waiting:
            member = waiting.pop()
            rng.shuffle(member.children)
            waiting += member.children
        return tell(founder)

    def test_rearranged_ones(self):
        for number, family in enumerate(small_families(10, 120)):
            form = settled(family)
            self.assertEqual(short(form), form)
            self.assertEqual(unordered(grow(form)), unordered(grow(family)))
            self.assertEqual(settled(self.rearranged(family, number)), form)
            self.assertEqual(settled(form), form)

    def test_alike_exactly_if_but_for_order(self):
        families = all_families(4, 1)
        forms = {}
        for family in families:
            forms.setdefault(settled(family), set()).add(unordered(grow(family)))
        self.assertTrue(all(len(alike) == 1 for alike in forms.values()))
        self.assertEqual(len(forms), len({unordered(grow(family)) for family in families}))

    def test_lines_that_differ_by_order_become_one(self):
        family = ((0, True, ()), (1, True, ()), (0, True, (0, 1)), (0, True, (1, 0)), (0, False, (2, 3)))
        self.assertEqual(len(settled(family)), 4)
        self.assertEqual(size_of(settled(family)), size_of(family))

    def test_great_ones(self):
        family = great_family(11)
        mirrored = tuple((mark, is_alive, children[::-1]) for mark, is_alive, children in family)
        self.assertEqual(settled(mirrored), settled(family))
        self.assertEqual(size_of(settled(family)), size_of(family))
        self.assertEqual(settled(chain(2000)), chain(2000))
        self.assertEqual(settled(doubled(199)), doubled(199))


if __name__ == "__main__":
    unittest.main()
