"""heirlines.kindred: point [21]"""

import random
import unittest

from heirlines.counts import find, how_many, number_of
from heirlines.kindred import kin_found, kin_numbers
from heirlines.ways import meeting
from tests.helper import at, chain, doubled, great_family, grow, raised, small_families, ways_of

EVERY = (None, None)
WHOS = (EVERY, (0, None), (None, True), (1, False))


def up_down(way, other_way):
    met = meeting(way, other_way)
    return len(way) - len(met), len(other_way) - len(met)


class Small(unittest.TestCase):

    def test_against_all_members(self):
        for family in small_families(30, 40, most=20, marks=2):
            founder = grow(family)
            ways = ways_of(founder)
            for way in ways:
                for who in WHOS:
                    chosen = [other for other in ways if who[0] in (None, at(founder, other).mark)
                              and who[1] in (None, at(founder, other).is_alive)]
                    self.check(family, way, who, chosen)

    def check(self, family, way, who, chosen):
        table = kin_numbers(family, way, who)
        self.assertEqual(len(table), len(way) + 1)
        self.assertEqual(sum(sum(row) for row in table), len(chosen))
        for up, row in enumerate(table):
            self.assertTrue(row == () or row[-1] > 0)
            for down in range(len(row) + 2):
                found = [other for other in chosen if up_down(way, other) == (up, down)]
                self.assertEqual(len(found), row[down] if down < len(row) else 0)
                for number in range(len(found) + 1):
                    expected = found[number] if number < len(found) else None
                    self.assertEqual(kin_found(family, way, who, up, down, number), expected)

    def test_by_hand(self):
        family = ((0, True, ()), (1, False, (0, 0)), (2, True, (1, 1, 0)))
        self.assertEqual(kin_numbers(family, (0, 1), EVERY), ((1,), (1, 1), (1, 2, 2)))
        self.assertEqual(kin_numbers(family, (0, 1), (1, None)), ((), (1,), (0, 1)))
        self.assertEqual(kin_numbers(family, (), (1, True)), ((),))
        self.assertEqual(kin_found(family, (0, 1), EVERY, 2, 2, 1), (1, 1))
        self.assertEqual(kin_found(family, (0, 1), EVERY, 0, 0, 0), (0, 1))
        self.assertIsNone(kin_found(family, (0, 1), (1, None), 0, 0, 0))
        self.assertIsNone(kin_found(family, (0, 1), EVERY, 0, 0, 1))

    def test_up_above_the_level(self):
        family = chain(5)
        for up in (3, 4, 10 ** 900):
            self.assertIsNone(kin_found(family, (0, 0), EVERY, up, 0, 0))
        for down in (3, 10 ** 900):
            self.assertIsNone(kin_found(family, (0, 0), EVERY, 0, down, 0))
            self.assertIsNone(kin_found(family, (0, 0), EVERY, 1, down, 0))
        self.assertIsNone(kin_found(family, (0, 0), EVERY, 1, 0, 10 ** 900))

    def test_wrong_ones_in_their_order(self):
        family = chain(3)
        good = [family, (0,), EVERY, 0, 0, 0]
        wrong = [((), ("BadFamily", None)), ((1,), ("BadWay", (1,))), ((0,), ("BadNumber", (0,))),
                 (-1, ("BadNumber", -1)), (True, ("BadNumber", True)), ("0", ("BadNumber", "0"))]
        for first in range(6):
            for second in range(first, 6):
                arguments = list(good)
                arguments[second] = wrong[second][0]
                arguments[first] = wrong[first][0]
                self.assertEqual(raised(kin_found, *arguments), wrong[first][1])
                if second < 3:
                    self.assertEqual(raised(kin_numbers, *arguments[:3]), wrong[first][1])


class Great(unittest.TestCase):

    def test_facts(self):
        rng = random.Random(2)
        for family in (great_family(31), doubled(199)):
            for who in (EVERY, (0, None), (None, False)):
                way = find(family, "first", EVERY, rng.randrange(how_many(family)))
                table = kin_numbers(family, way, who)
                self.assertEqual(len(table), len(way) + 1)
                self.assertEqual(sum(sum(row) for row in table), how_many(family, who))
                for _ in range(12):
                    up = rng.randrange(len(table))
                    if table[up] == ():
                        continue
                    down = rng.randrange(len(table[up]))
                    many = table[up][down]
                    self.assertIsNone(kin_found(family, way, who, up, down, many))
                    if many > 0:
                        number = rng.randrange(many)
                        found = kin_found(family, way, who, up, down, number)
                        self.assertEqual(up_down(way, found), (up, down))
                        ahead = kin_found(family, way, who, up, down, max(number - 1, 0))
                        self.assertLessEqual(number_of(family, "first", EVERY, ahead),
                                             number_of(family, "first", EVERY, found))

    def test_known_ones(self):
        table = kin_numbers(doubled(199), (0,) * 198, EVERY)
        self.assertEqual(table[0], (1,))
        self.assertEqual(table[198], (1,) + tuple(2 ** level for level in range(198)))
        self.assertEqual(kin_found(doubled(199), (0,) * 198, EVERY, 198, 198, 2 ** 197 - 1), (1,) * 198)
        self.assertIsNone(kin_found(doubled(199), (0,) * 198, EVERY, 198, 198, 2 ** 197))

    def test_long_ones(self):
        self.assertEqual(kin_numbers(chain(2000), (0,) * 1999, EVERY), ((1,),) * 2000)
        self.assertEqual(kin_numbers(chain(2000), (), EVERY), ((1,) * 2000,))
        self.assertEqual(kin_found(chain(2000), (0,) * 5, EVERY, 0, 1994, 0), (0,) * 1999)


if __name__ == "__main__":
    unittest.main()
