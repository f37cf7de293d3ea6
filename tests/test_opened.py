"""heirlines.opened: point [54]"""

import unittest

from heirlines.chances import can_be_heir, fewest
from heirlines.opened import closed_case, is_open
from heirlines.shorts import short
from tests.helper import (ELDEST, NOBODY, YOUNGEST, all_families, at, big_customs, customs, grow, raised, size_of,
                          small_families, ways_of)

LEAF = (0, True, ())


class Opened(unittest.TestCase):

    def check(self, custom, families, most):
        sizes = []
        for family in families:
            founder = grow(family)
            living = sum(1 for way in ways_of(founder) if at(founder, way).is_alive)
            if can_be_heir(custom, family) < living:
                sizes.append(size_of(family))
        told = closed_case(custom)
        self.assertIs(is_open(custom), told is None)
        if told is None:
            self.assertEqual(sizes, [])
            return
        family, way = told
        self.assertEqual(short(family), family)
        self.assertTrue(at(grow(family), way).is_alive)
        self.assertIsNone(fewest(custom, family, ("heir", way)))
        if sizes or size_of(family) <= most:
            self.assertEqual(size_of(family), min(sizes))

    def test_against_all_small_families(self):
        families = all_families(4, 1)
        for custom in [ELDEST, YOUNGEST, NOBODY] + customs(1800, 20, 1, 5) + big_customs(1801, 40, 1, 3, 3):
            self.check(custom, families, 4)
        families = all_families(3, 2)
        for custom in big_customs(1802, 25, 2, 4, 4):
            self.check(custom, families, 3)

    def test_larger_cases(self):
        sizes = set()
        families = all_families(3, 1)
        for custom in big_customs(1803, 150, 1, 4, 3):
            told = closed_case(custom)
            if told is not None:
                sizes.add(size_of(told[0]))
                self.assertIsNone(fewest(custom, told[0], ("heir", told[1])))
                for family in families:
                    if size_of(family) < size_of(told[0]):
                        living = [way for way in ways_of(grow(family)) if at(grow(family), way).is_alive]
                        self.assertEqual(can_be_heir(custom, family), len(living))
        self.assertGreater(max(sizes), 2)

    def test_open_ones(self):
        told = [custom for custom in [ELDEST, YOUNGEST] + customs(1805, 80, 2, 4) if is_open(custom)]
        self.assertGreater(len(told), 2)
        for custom in told:
            self.assertIsNone(closed_case(custom))
            for family in small_families(1806, 6, most=20, marks=custom[0]):
                living = [way for way in ways_of(grow(family)) if at(grow(family), way).is_alive]
                self.assertEqual(can_be_heir(custom, family), len(living))

    def test_by_hand(self):
        self.assertIs(is_open(ELDEST), True)
        self.assertIsNone(closed_case(ELDEST))
        self.assertEqual(closed_case(NOBODY), ((LEAF,), ()))
        # the dead lead nobody on, so below a dead one nobody is heir
        close = ((((0, "none"), (0, "none")), ((1, "self"), (1, "line"))),)
        custom = (1, (False, True), (False, True), YOUNGEST[3], close)
        family, way = closed_case(custom)
        self.assertEqual((size_of(family), family[-1][1], way), (2, False, (0,)))

    def test_big_ones(self):
        for custom in big_customs(1807, 4):
            told = closed_case(custom)
            if told is not None and size_of(told[0]) < 10 ** 20:
                self.assertIsNone(fewest(custom, told[0], ("heir", told[1])))

    def test_wrong_ones(self):
        for function in (is_open, closed_case):
            self.assertEqual(raised(function, None), ("BadCustom", "form"))
            self.assertEqual(raised(function, custom=ELDEST[:4] + (0,)), ("BadCustom", "close"))


if __name__ == "__main__":
    unittest.main()
