"""heirlines.views: point [49]"""

import itertools
import unittest

from heirlines.customs import renumbered
from heirlines.pairs import line_pairs
from heirlines.parted import relations
from heirlines.shorts import short
from heirlines.views import view_case, view_in, views
from tests.helper import (ELDEST, NOBODY, YOUNGEST, all_families, at, big_customs, customs, doubled, grow, heir_in,
                          raised, relation, size_of, small_families)

WORDS = ("none", "first", "second", "same", "above", "below", "elder", "younger")
LEAF = (0, True, ())


def slow_view(one, two, family):
    founder = grow(family)
    heir, far = heir_in(one, founder), heir_in(two, founder)
    marks = [None if way is None else at(founder, way).mark for way in (heir, far)]
    return (relation(heir, far), marks[0], marks[1], heir == (), far == ())


def order(view):
    return (WORDS.index(view[0]), [-1 if mark is None else mark for mark in view[1:3]], view[3:])


class ViewIn(unittest.TestCase):

    def test_against_members(self):
        for one, two in list(zip(customs(1400, 30, 3, 4), customs(1401, 30, 3, 4))) + list(
                zip(big_customs(1402, 10), big_customs(1403, 10))):
            for family in small_families(1404, 15, most=25):
                self.assertEqual(view_in(one, two, family), slow_view(one, two, family))

    def test_by_hand(self):
        pair = (LEAF, (0, True, (0,)))
        self.assertEqual(view_in(ELDEST, YOUNGEST, pair), ("above", 0, 0, True, False))
        self.assertEqual(view_in(YOUNGEST, ELDEST, pair), ("below", 0, 0, False, True))
        self.assertEqual(view_in(ELDEST, NOBODY, pair), ("first", 0, None, True, False))
        self.assertEqual(view_in(NOBODY, NOBODY, pair), ("none", None, None, False, False))
        self.assertEqual(view_in(ELDEST, ELDEST, (LEAF,)), ("same", 0, 0, True, True))

    def test_any_number_of_members(self):
        self.assertEqual(view_in(ELDEST, YOUNGEST, doubled(300)), ("above", 0, 0, True, False))

    def test_wrong_ones(self):
        for family, place in ((None, None), ((), None), (((1, True, ()),), 0), ((LEAF, (0, True, (1,))), 1)):
            self.assertEqual(raised(view_in, ELDEST, YOUNGEST, family), ("BadFamily", place))


class Views(unittest.TestCase):

    def check(self, one, two, families, most):
        least = {}
        for family in families:
            view = slow_view(one, two, family)
            least[view] = min(least.get(view, 99), size_of(family))
        told = views(one, two)
        self.assertEqual(list(told), sorted(set(told), key=order))
        self.assertTrue(set(least) <= set(told))
        for view in told:
            family = view_case(one, two, view)
            self.assertEqual(short(family), family)
            self.assertEqual(slow_view(one, two, family), view)
            if size_of(family) <= most or view in least:
                self.assertEqual(size_of(family), least[view])

    def test_against_all_small_families(self):
        families = all_families(4, 2)
        for one, two in zip(big_customs(1405, 8, 2, 3, 3), big_customs(1406, 8, 2, 3, 3)):
            self.check(one, two, families, 4)
        families = all_families(5, 1)
        for one, two in list(zip(customs(1407, 10, 1, 4), customs(1408, 10, 1, 4))) + [(ELDEST, YOUNGEST)]:
            self.check(one, two, families, 5)
        families = all_families(3, 3)
        for one, two in zip(big_customs(1409, 6, 3, 4, 4), big_customs(1410, 6, 3, 4, 4)):
            self.check(one, two, families, 3)

    def test_relations_and_pairs(self):
        for one, two in zip(customs(1411, 30, 2, 5), customs(1412, 30, 2, 5)):
            told = views(one, two)
            shown = {view[0] for view in told}
            self.assertEqual(tuple(word for word in WORDS if word in shown), relations(one, two))
            self.assertEqual(shown, {pair[2] for pair in line_pairs(one, two)})

    def test_big_ones(self):
        for one, two in zip(big_customs(1413, 3), big_customs(1414, 3)):
            told = views(one, two)
            self.assertEqual(list(told), sorted(set(told), key=order))
            for view in told[::5]:
                self.assertEqual(slow_view(one, two, view_case(one, two, view)), view)

    def test_by_hand(self):
        self.assertEqual(views(NOBODY, NOBODY), (("none", None, None, False, False),))
        self.assertEqual(views(ELDEST, NOBODY), (("none", None, None, False, False), ("first", 0, None, False, False),
                                                 ("first", 0, None, True, False)))
        self.assertEqual(views(ELDEST, renumbered(ELDEST, (0, 1), (1, 0))), (
            ("none", None, None, False, False), ("same", 0, 0, False, False), ("same", 0, 0, True, True)))
        self.assertEqual(views(ELDEST, YOUNGEST), (
            ("none", None, None, False, False), ("same", 0, 0, False, False), ("same", 0, 0, True, True),
            ("above", 0, 0, False, False), ("above", 0, 0, True, False), ("elder", 0, 0, False, False)))

    def test_views_that_do_not_come(self):
        told = set(views(ELDEST, YOUNGEST))
        for view in itertools.product(WORDS, (None, 0, 1, 2), (None, 0, 1, 2), (False, True), (False, True)):
            self.assertIs(view_case(ELDEST, YOUNGEST, view) is None, view not in told)

    def test_what_is_no_view(self):
        good = ("none", None, None, False, False)
        wrong = [None, 0, "", "none", (), [], list(good), good[:4], good + (False,)]
        for place, values in ((0, (None, 0, "", "None", "newborn", ["none"])), (1, (-1, 3, True, "0", (), [])),
                              (2, (-1, 3, False, "0", ())), (3, (0, 1, None, "True")), (4, (0, 1, None, ()))):
            wrong += [good[:place] + (value,) + good[place + 1:] for value in values]
        for view in wrong:
            self.assertEqual(raised(view_case, ELDEST, YOUNGEST, view), ("BadName", view))
            self.assertEqual(raised(view_case, view=view, other=None, custom=ELDEST), ("BadCustom", "form"))
        self.assertIsNone(raised(view_case, ELDEST, YOUNGEST, good))


if __name__ == "__main__":
    unittest.main()
