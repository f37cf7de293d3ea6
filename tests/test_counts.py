"""heirlines.counts: points [20] and [22], places"""

import random
import unittest

from heirlines.counts import find, how_many, levels, members, number_of, place_at, places
from heirlines.lines import how_high
from heirlines.shorts import short
from heirlines.ways import line_at, own_line
from tests.helper import (at, chain, doubled, great_family, grow, nested, raised, retold, size_of, small_families,
                          ways_last, ways_of, with_members)

ALL = [(mark, is_alive) for mark in (None, 0, 1, 2) for is_alive in (None, True, False)]
ORDERS = ("first", "last", "levels")
LEAF = (0, True, ())


def is_of(member, who):
    return who[0] in (None, member.mark) and who[1] in (None, member.is_alive)


def in_order(founder, order):
    if order == "last":
        return ways_last(founder)
    ways = ways_of(founder)
    return sorted(ways, key=lambda way: (len(way), way)) if order == "levels" else ways


class Small(unittest.TestCase):

    def test_counts_and_levels(self):
        for family in small_families(20, 60):
            founder = grow(family)
            ways = ways_of(founder)
            self.assertEqual(how_many(family), len(ways))
            self.assertEqual(members(family), tuple(ways))
            for who in ALL:
                chosen = [way for way in ways if is_of(at(founder, way), who)]
                self.assertEqual(how_many(family, who), len(chosen))
                high = max(len(way) for way in ways)
                numbers = tuple(sum(len(way) == level for way in chosen) for level in range(high + 1))
                self.assertEqual(levels(family, who), numbers)

    def test_numbers_in_all_orders(self):
        for family in small_families(21, 40, most=20):
            founder = grow(family)
            for order in ORDERS:
                ways = in_order(founder, order)
                for who in ALL:
                    chosen = [way for way in ways if is_of(at(founder, way), who)]
                    for number, way in enumerate(chosen):
                        self.assertEqual(find(family, order, who, number), way)
                    for number in (len(chosen), len(chosen) + 1, 10 ** 900):
                        self.assertIsNone(find(family, order, who, number))
                    for place, way in enumerate(ways):
                        ahead = sum(is_of(at(founder, other), who) for other in ways[:place])
                        self.assertEqual(number_of(family, order, who, way), ahead)

    def test_by_hand(self):
        family = (LEAF, (1, False, (0, 0)), (2, True, (1, 0)))
        ways = {"first": ((), (0,), (0, 0), (0, 1), (1,)), "last": ((0, 0), (0, 1), (0,), (1,), ()),
                "levels": ((), (0,), (1,), (0, 0), (0, 1))}
        for order in ORDERS:
            told = tuple(find(family, order, (None, None), number) for number in range(5))
            self.assertEqual(told, ways[order])
        self.assertEqual(levels(family), (1, 2, 2))
        self.assertEqual(levels(family, (1, None)), (0, 1, 0))
        self.assertEqual(levels(family, (1, True)), (0, 0, 0))
        self.assertEqual(number_of(family, "last", (0, True), ()), 3)
        self.assertEqual(number_of(family, "levels", (0, True), (0, 1)), 2)

    def test_members_up_to_300(self):
        self.assertEqual(len(members(chain(300))), 300)
        self.assertEqual(raised(members, chain(301)), ("TooGreat", 300))
        wide = (LEAF, (0, True, (0,) * 299))
        self.assertEqual(members(wide), ((),) + tuple((place,) for place in range(299)))
        self.assertEqual(raised(members, (LEAF, (0, True, (0,) * 300))), ("TooGreat", 300))
        self.assertEqual(members(chain(400) + (LEAF,)), ((),))
        self.assertEqual(raised(members, (None,)), ("BadFamily", 0))

    def test_places(self):
        families = small_families(22, 40, most=25, marks=2, lines=6)
        for family in families:
            founder = grow(family)
            ways = ways_of(founder)
            others = [line_at(family, way) for way in ways[:5]] + families[:6]
            for other in others:
                for told in (other, retold(other, 5)):
                    chosen = [way for way in ways if nested(at(founder, way)) == nested(grow(other))]
                    self.assertEqual(places(family, told), len(chosen))
                    for number in range(len(chosen) + 2):
                        expected = chosen[number] if number < len(chosen) else None
                        self.assertEqual(place_at(family, told, number), expected)


class Great(unittest.TestCase):

    def check_facts(self, family, seed):
        rng = random.Random(seed)
        for who in ((None, None), (1, None), (None, True), (2, False)):
            many = how_many(family, who)
            self.assertEqual(sum(levels(family, who)), many)
            for order in ORDERS:
                self.assertIsNone(find(family, order, who, many))
                if many == 0:
                    continue
                numbers = [0, many - 1] + [rng.randrange(many) for _ in range(8)]
                for number in numbers:
                    way = find(family, order, who, number)
                    self.assertEqual(number_of(family, order, who, way), number)
                    mark, is_alive, _ = own_line(family, way)
                    self.assertTrue(who[0] in (None, mark) and who[1] in (None, is_alive))

    def test_facts(self):
        for seed in range(4):
            self.check_facts(great_family(seed), seed)
        self.check_facts(with_members(10 ** 60), 5)
        self.check_facts(chain(2000), 6)
        self.check_facts(doubled(199), 7)

    def test_numbers_of_one_line(self):
        rng = random.Random(3)
        family = great_family(12)
        every = (None, None)
        for _ in range(20):
            way = find(family, "first", every, rng.randrange(how_many(family)))
            size = how_many(line_at(family, way))
            first = number_of(family, "first", every, way)
            last = number_of(family, "last", every, way)
            self.assertEqual(first + size, last + len(way) + 1)
            below = find(family, "first", every, first + size - 1)
            self.assertEqual(below[:len(way)], way)
            beyond = find(family, "first", every, first + size)
            self.assertTrue(beyond is None or beyond[:len(way)] != way)
            eldest = find(family, "last", every, last - size + 1)
            self.assertEqual(eldest[:len(way)], way)

    def test_levels_ascend(self):
        family = great_family(13)
        rng = random.Random(4)
        many = how_many(family)
        numbers = sorted(rng.randrange(many) for _ in range(40))
        ways = [find(family, "levels", (None, None), number) for number in numbers]
        self.assertEqual(ways, sorted(ways, key=lambda way: (len(way), way)))
        ways = [find(family, "first", (None, None), number) for number in numbers]
        self.assertEqual(ways, sorted(ways))

    def test_levels_of_known_ones(self):
        self.assertEqual(levels(doubled(199)), tuple(2 ** level for level in range(199)))
        self.assertEqual(levels(chain(2000)), (1,) * 2000)
        self.assertEqual(levels(chain(2000), (1, None)), (0,) * 2000)
        self.assertEqual(len(levels(great_family(2))), how_high(great_family(2)) + 1)
        self.assertEqual(how_many(with_members(10 ** 60)), 10 ** 60)

    def test_places_of_known_ones(self):
        self.assertEqual(places(doubled(199), doubled(49)), 2 ** 150)
        self.assertEqual(place_at(doubled(199), doubled(49), 1), (0,) * 149 + (1,))
        self.assertEqual(place_at(doubled(199), doubled(49), 2 ** 150 - 1), (1,) * 150)
        self.assertIsNone(place_at(doubled(199), doubled(49), 2 ** 150))
        self.assertEqual(places(doubled(99), doubled(100)), 0)
        self.assertEqual(places(doubled(99), doubled(99)), 1)
        self.assertEqual(place_at(doubled(99), doubled(99), 0), ())
        self.assertEqual(places(chain(2000), chain(1)), 1)
        self.assertEqual(place_at(chain(2000), chain(1), 0), (0,) * 1999)

    def test_places_are_where_the_line_reads_so(self):
        family = great_family(14)
        rng = random.Random(9)
        for _ in range(10):
            other = line_at(family, find(family, "first", (None, None), rng.randrange(how_many(family))))
            many = places(family, other)
            ahead = None
            for number in sorted({0, many - 1, rng.randrange(many)}):
                way = place_at(family, retold(other, 1), number)
                self.assertEqual(line_at(family, way), other)
                self.assertTrue(ahead is None or ahead < way)
                ahead = way
            self.assertIsNone(place_at(family, other, many))

    def test_needless_lines_do_not_matter(self):
        family = chain(20)
        told = doubled(400) + family[:1] + tuple((mark, is_alive, (400 + number,))
                                                 for number, (mark, is_alive, _) in enumerate(family[1:]))
        self.assertEqual(short(told), family)
        self.assertEqual(levels(told), (1,) * 20)
        self.assertEqual(how_many(told), size_of(family))
        self.assertEqual(find(told, "last", (None, None), 0), (0,) * 19)


if __name__ == "__main__":
    unittest.main()
