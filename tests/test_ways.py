"""heirlines.ways: point [11]"""

import unittest

from heirlines.ways import kin, line_at, meeting, need_way, own_line
from tests.helper import at, chain, doubled, grow, raised, small_families, tell, ways_of

LEAF = (0, True, ())
FAMILY = (LEAF, (1, False, (0, 0)), (2, True, (1, 0, 1)))
NO_WAYS = (None, 0, "", [], [0], {}, True, (True,), (False,), ("0",), (None,), ((0,),), (-1,), (3,), (0, 2),
           (0, 0, 0), (1, 0), (0, -1), (10 ** 900,))


class NeedWay(unittest.TestCase):

    def test_ways_of_members(self):
        for way in ((), (0,), (1,), (2,), (0, 0), (0, 1), (2, 0), (2, 1)):
            self.assertIs(need_way(FAMILY, way), way)

    def test_ways_of_nobody(self):
        for function in (need_way, line_at, own_line):
            for way in NO_WAYS:
                self.assertEqual(raised(function, FAMILY, way), ("BadWay", way))
                self.assertEqual(raised(function, way=way, family=FAMILY), ("BadWay", way))
                self.assertEqual(raised(function, (None,), way), ("BadFamily", 0))
                self.assertEqual(raised(function, None, way), ("BadFamily", None))

    def test_the_very_value_is_told(self):
        way = [0]
        try:
            need_way(FAMILY, way)
        except ValueError as error:
            self.assertIs(error.way, way)

    def test_in_small_families_and_beyond(self):
        for family in small_families(2, 80):
            founder = grow(family)
            for way in ways_of(founder):
                self.assertIs(need_way(family, way), way)
                many = len(at(founder, way).children)
                for place in (many, -1, 600):
                    self.assertEqual(raised(need_way, family, way + (place,)), ("BadWay", way + (place,)))

    def test_long_ways(self):
        self.assertEqual(need_way(chain(2000), (0,) * 1999), (0,) * 1999)
        self.assertEqual(raised(need_way, chain(2000), (0,) * 2000), ("BadWay", (0,) * 2000))
        self.assertEqual(need_way((LEAF, (0, True, (0,) * 600)), (599,)), (599,))


class LineAt(unittest.TestCase):

    def test_small_ones(self):
        for family in small_families(3, 80):
            founder = grow(family)
            for way in ways_of(founder):
                member = at(founder, way)
                self.assertEqual(line_at(family, way), tell(member))
                self.assertEqual(own_line(family, way), (member.mark, member.is_alive, len(member.children)))

    def test_the_line_of_the_founder_is_the_short_form(self):
        self.assertEqual(line_at((LEAF, LEAF, (0, False, (0, 1))), ()), (LEAF, (0, False, (0, 0))))

    def test_great_ones(self):
        self.assertEqual(line_at(doubled(199), (1,) * 150), doubled(49))
        self.assertEqual(line_at(chain(2000), (0,) * 1990), chain(10))
        self.assertEqual(own_line(doubled(199), (1, 0) * 99), (0, True, 0))
        self.assertEqual(own_line(doubled(199), (1, 0) * 20), (0, True, 2))


class Kin(unittest.TestCase):

    def test_small_ones(self):
        for family in small_families(4, 20, most=15):
            ways = ways_of(grow(family))
            for way in ways:
                for other_way in ways:
                    self.assertEqual(kin(way, other_way), self.slow_kin(way, other_way))
                    self.assertEqual(meeting(way, other_way), self.slow_meeting(way, other_way))

    def slow_meeting(self, way, other_way):
        return max((way[:many] for many in range(len(way) + 1) if other_way[:many] == way[:many]), key=len)

    def slow_kin(self, way, other_way):
        met = self.slow_meeting(way, other_way)
        if way == other_way:
            return "same"
        if met == way:
            return "above"
        if met == other_way:
            return "below"
        return "elder" if way[len(met)] < other_way[len(met)] else "younger"

    def test_by_hand(self):
        self.assertEqual(kin((), ()), "same")
        self.assertEqual(kin((), (0,)), "above")
        self.assertEqual(kin((4, 2), (4,)), "below")
        self.assertEqual(kin((1, 9), (2, 0)), "elder")
        self.assertEqual(kin((599,), (10, 3)), "younger")
        self.assertEqual(meeting((3, 2, 1), (3, 2, 4, 4)), (3, 2))
        self.assertEqual(meeting((0,), (1,)), ())

    def test_long_ways(self):
        way = (0,) * 1999
        self.assertEqual(kin(way, way[:-1] + (1,)), "elder")
        self.assertEqual(kin(way[:-1], way), "above")
        self.assertEqual(meeting(way, way[:500] + (1,)), (0,) * 500)

    def test_wrong_ones(self):
        wrong = (None, 0, "", [], [0], True, (True,), (-1,), (600,), ("0",), ((),), (0,) * 2000, (10 ** 900,))
        for function in (kin, meeting):
            for value in wrong:
                self.assertEqual(raised(function, value, ()), ("BadWay", value))
                self.assertEqual(raised(function, (0,), value), ("BadWay", value))
                self.assertEqual(raised(function, value, (600, 1)), ("BadWay", value))
                self.assertEqual(raised(function, other_way=value, way=(599,)), ("BadWay", value))


if __name__ == "__main__":
    unittest.main()
