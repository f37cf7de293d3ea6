"""heirlines.lots: point [44]"""

import random
import unittest

from heirlines.alike import are_alike
from heirlines.customs import renumbered
from heirlines.heirs import heir
from heirlines.least import least_custom, size_of
from heirlines.lots import check_lot, first_unlike
from heirlines.shorts import short
from tests.helper import (ELDEST, NOBODY, YOUNGEST, all_customs, big_custom, big_customs, customs, doubled, raised,
                          small_families, with_place_changed, with_turns)

LEAF = (0, True, ())


class CheckLot(unittest.TestCase):

    def test_families(self):
        for custom in customs(1000, 40, 2, 6) + big_customs(1001, 6):
            lot = check_lot(custom)
            self.assertLessEqual(len(lot), 6000)
            self.assertEqual(len(set(lot)), len(lot))
            for family in lot:
                self.assertEqual(short(family), family)
                self.assertTrue(all(line[0] < custom[0] for line in family))

    def check(self, custom, lot, other):
        """Whether the other custom is found out by the lot, if it is small enough."""
        unlike = first_unlike(custom, other, lot)
        if are_alike(custom, other):
            self.assertIsNone(unlike)
            return True
        self.assertIsNotNone(unlike)
        return False

    def test_all_small_customs(self):
        least = sorted({least_custom(custom) for custom in all_customs(2, 2) + all_customs(1, 2) + all_customs(2, 1)},
                       key=repr)
        for custom in least:
            lot = check_lot(custom)
            many = size_of(custom)
            for other in least:
                if size_of(other)[0] <= many[0] and size_of(other)[1] <= many[1]:
                    self.check(custom, lot, other)

    def test_near_ones(self):
        rng = random.Random(1002)
        told = {True: 0, False: 0}
        for custom in customs(1003, 60, 2, 5) + big_customs(1004, 12) + big_customs(1005, 30, 1, 3, 3):
            least = least_custom(custom)
            lot = check_lot(custom)
            for _ in range(25):
                other = with_place_changed(least, rng)
                told[self.check(custom, lot, other)] += 1
                turned = renumbered(other, *with_turns(other, rng))
                self.check(custom, lot, with_place_changed(turned, rng))
        self.assertGreater(min(told.values()), 100)

    def test_far_ones(self):
        rng = random.Random(1006)
        for custom in big_customs(1007, 15, 1, 3, 3) + big_customs(1008, 10, 2, 2, 3):
            lot = check_lot(custom)
            stands, ranks = size_of(custom)
            for _ in range(100):
                if ranks > 1:
                    self.check(custom, lot, big_custom(rng, custom[0], stands, ranks))

    def test_wrong_ones(self):
        self.assertEqual(raised(check_lot, None), ("BadCustom", "form"))
        self.assertEqual(raised(check_lot, custom=ELDEST[:4] + (0,)), ("BadCustom", "close"))


class FirstUnlike(unittest.TestCase):

    def test_against_heirs(self):
        for one, two in zip(customs(1009, 40, 2, 3), customs(1010, 40, 2, 3)):
            lot = tuple(small_families(1011, 12, most=12, marks=2))
            unlike = [place for place, family in enumerate(lot) if heir(one, family) != heir(two, family)]
            self.assertEqual(first_unlike(one, two, lot), unlike[0] if unlike else None)

    def test_by_hand(self):
        pair = (LEAF, (0, True, (0,)))
        self.assertIsNone(first_unlike(ELDEST, YOUNGEST, ()))
        self.assertEqual(first_unlike(ELDEST, YOUNGEST, ((LEAF,), pair, pair)), 1)
        self.assertEqual(first_unlike(ELDEST, NOBODY, ((LEAF,),) * 6000), 0)
        self.assertIsNone(first_unlike(ELDEST, ELDEST, ((LEAF,), pair)))
        self.assertEqual(first_unlike(ELDEST, YOUNGEST, ((LEAF,), doubled(300))), 1)

    def test_wrong_lots(self):
        for lot in (None, 0, "", [], [(LEAF,)], {}, ((LEAF,),) * 6001, (None,) * 6001):
            self.assertEqual(raised(first_unlike, ELDEST, YOUNGEST, lot), ("BadRow", None))
        for item in (None, 0, (), [LEAF], (None,), ((1, True, ()),), ((0, True, (0,)),), ((0, 1, ()),)):
            for place in range(3):
                lot = ((LEAF,),) * place + (item, None)
                self.assertEqual(raised(first_unlike, ELDEST, YOUNGEST, lot), ("BadRow", place))
        # all of the lot is looked at ahead of the heirs
        self.assertEqual(raised(first_unlike, ELDEST, NOBODY, ((LEAF,), None)), ("BadRow", 1))
        two = customs(1012, 1, 2)[0]
        self.assertEqual(raised(first_unlike, ELDEST, two, None), ("BadMarks", 2))
        self.assertEqual(raised(first_unlike, None, None, None), ("BadCustom", "form"))
        self.assertEqual(raised(first_unlike, lot=None, other=YOUNGEST[:3] + (0, 0), custom=ELDEST),
                         ("BadCustom", "read"))


if __name__ == "__main__":
    unittest.main()
