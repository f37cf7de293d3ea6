"""heirlines.lines: point [10]"""

import unittest

from heirlines.errors import BadFamily
from heirlines.lines import how_high, need_family
from tests.helper import at, chain, doubled, grow, raised, small_families, ways_of, with_members

LEAF = (0, True, ())
NO_FAMILIES = (None, 0, "", [LEAF], {}, True, (), LEAF[2], [], "ab", b"ab")


class NeedFamily(unittest.TestCase):

    def test_it_is_the_family_itself(self):
        for family in (((0, True, ()),), ((2, False, ()),), (LEAF, (1, False, (0, 0))), chain(50)):
            self.assertIs(need_family(family), family)
            self.assertIs(need_family(family, marks=3), family)

    def test_what_is_no_tuple_of_lines(self):
        for value in NO_FAMILIES:
            self.assertEqual(raised(need_family, value), ("BadFamily", None))

    def test_at_most_2000_lines(self):
        self.assertEqual(how_high(chain(2000)), 1999)
        self.assertEqual(raised(need_family, chain(2001)), ("BadFamily", None))
        self.assertEqual(raised(need_family, (None,) * 2001), ("BadFamily", None))
        self.assertEqual(raised(need_family, (None,) * 2000), ("BadFamily", 0))

    def test_at_most_600_children(self):
        wide = (LEAF, (0, True, (0,) * 600))
        self.assertIs(need_family(wide), wide)
        self.assertEqual(raised(need_family, (LEAF, (0, True, (0,) * 601))), ("BadFamily", 1))

    def test_at_most_so_many_members(self):
        most = with_members(10 ** 60)
        self.assertIs(need_family(most), most)
        self.assertEqual(raised(need_family, with_members(10 ** 60 + 1)), ("BadFamily", None))
        self.assertEqual(raised(need_family, doubled(200)), ("BadFamily", None))

    def test_needless_lines_are_no_members(self):
        for needless in (with_members(10 ** 60 + 1), doubled(1000)):
            family = needless + (LEAF,)
            self.assertIs(need_family(family), family)
        most = with_members(10 ** 60)
        family = most[:-1] + (LEAF, most[-1])
        self.assertIs(need_family(family), family)
        more = with_members(10 ** 60 + 1)
        self.assertEqual(raised(need_family, more[:-1] + (LEAF, more[-1])), ("BadFamily", None))

    def spoilt(self, place):
        """Lines that can't stand as the number place, in a family with two marks."""
        return (None, 0, "line", [0, True, ()], (0, True), (0, True, (), ()), (), (True, True, ()),
                (False, True, ()), (0, 1, ()), (0, 0, ()), (0, None, ()), ("0", True, ()), (None, True, ()),
                (-1, True, ()), (2, True, ()), (3, True, ()), (10 ** 900, True, ()), (0, True, []), (0, True, None),
                (0, True, 0), (0, True, (place,)), (0, True, (place + 1,)), (0, True, (-1,)), (0, True, ("0",)),
                (0, True, (None,)), (0, True, (True,)), (0, True, (False,)), (0, True, ((0,),)),
                (0, True, (10 ** 900,)), (0, True, "01"), (0, True, b"01"))

    def test_one_line_spoilt_at_each_place(self):
        family = (LEAF, (1, False, (0,)), (0, True, ()), (1, True, (0, 1, 2, 0)), (0, False, (3, 3)))
        self.assertIs(need_family(family, 2), family)
        for place in range(len(family)):
            for line in self.spoilt(place):
                wrong = family[:place] + (line,) + family[place + 1:]
                self.assertEqual(raised(need_family, wrong, 2), ("BadFamily", place), line)

    def test_the_first_wrong_line_is_told(self):
        self.assertEqual(raised(need_family, (LEAF, None, 0, LEAF)), ("BadFamily", 1))
        self.assertEqual(raised(need_family, (LEAF, LEAF, LEAF, (0, True, (3,)))), ("BadFamily", 3))

    def test_a_wrong_line_comes_ahead_of_too_many_members(self):
        self.assertEqual(raised(need_family, doubled(300) + (None,)), ("BadFamily", 300))
        self.assertEqual(raised(need_family, (None,) + doubled(300)), ("BadFamily", 0))

    def test_marks_tell_which_marks_may_stand(self):
        for marks in (1, 2, 3):
            for mark in (0, 1, 2):
                told = raised(need_family, ((0, True, ()), (mark, False, ()), (0, True, ())), marks)
                self.assertEqual(told, None if mark < marks else ("BadFamily", 1))

    def test_wrong_marks_come_ahead_of_a_wrong_family(self):
        for marks in (0, 4, -1, True, False, None, "1", (1,), [1], 10 ** 900):
            for family in ((LEAF,), (), None, doubled(300)):
                self.assertEqual(raised(need_family, family, marks), ("BadNumber", marks))
                self.assertEqual(raised(need_family, family=family, marks=marks), ("BadNumber", marks))

    def test_the_error_is_its_own(self):
        with self.assertRaises(BadFamily):
            need_family(((0, True, (0,)),))


class HowHigh(unittest.TestCase):

    def test_small_ones_by_their_ways(self):
        for family in small_families(1, 150):
            founder = grow(family)
            self.assertEqual(how_high(family), max(len(way) for way in ways_of(founder)))
            self.assertIsNotNone(at(founder, ()))

    def test_needless_lines_do_not_count(self):
        self.assertEqual(how_high(chain(30) + (LEAF,)), 0)
        self.assertEqual(how_high(chain(30) + ((0, True, (3, 5)),)), 6)

    def test_great_ones(self):
        self.assertEqual(how_high(chain(2000)), 1999)
        self.assertEqual(how_high(doubled(199)), 198)

    def test_what_is_no_family(self):
        for value in NO_FAMILIES:
            self.assertEqual(raised(how_high, value), ("BadFamily", None))


if __name__ == "__main__":
    unittest.main()
