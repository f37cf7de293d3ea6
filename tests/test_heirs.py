"""heirlines.heirs: points [15], [26] and [29]"""

import random
import unittest

from heirlines.heirs import check_heir, claims, heir, heir_paper, place_of
from heirlines.changes import marked
from heirlines.readings import reading
from heirlines.ways import own_line
from tests.helper import (ELDEST, NOBODY, YOUNGEST, all_families, at, chain, customs, doubled, great_family, grow,
                          heir_in, line_of_claim, raised, retold, small_families, ways_of, with_members)

LEAF = (0, True, ())


class Heir(unittest.TestCase):

    def test_all_small_families(self):
        families = all_families(4, 1)
        for custom in [ELDEST, YOUNGEST, NOBODY] + customs(80, 12):
            for family in families:
                self.assertEqual(heir(custom, family), heir_in(custom, grow(family)))

    def test_random_families(self):
        for custom in customs(81, 40, marks=3, most=7):
            for family in small_families(82, 12):
                self.assertEqual(heir(custom, family), heir_in(custom, grow(family)))
                self.assertEqual(heir(custom, retold(family, 2)), heir(custom, family))

    def test_great_ones(self):
        family = ((0, True, ()),) + tuple((0, False, (number, number)) for number in range(198))
        self.assertEqual(heir(ELDEST, family), (0,) * 198)
        self.assertEqual(heir(YOUNGEST, family), (1,) * 198)
        self.assertEqual(heir(NOBODY, family), None)
        self.assertEqual(heir(ELDEST, ((0, True, ()),) + chain(2000, is_alive=False)[1:]), (0,) * 1999)
        for seed, custom in enumerate(customs(83, 10, marks=3)):
            family = great_family(seed, alive=0.1)
            self.assertEqual(heir(custom, family), reading(custom, family)[-1][1])


class Claims(unittest.TestCase):

    def test_against_killing_the_heir(self):
        for custom in [ELDEST, YOUNGEST] + customs(84, 30, marks=1):
            for family in all_families(3, 1) + small_families(85, 10, most=25, marks=1):
                told = line_of_claim(custom, grow(family))
                for many in (0, 1, 2, len(told), 100):
                    self.assertEqual(claims(custom, family, many), told[:many])

    def test_more_than_100(self):
        family = chain(150)
        told = claims(ELDEST, family, 100)
        self.assertEqual(told, tuple((0,) * level for level in range(100)))
        self.assertEqual(claims(ELDEST, family, 1), ((),))
        self.assertEqual(claims(ELDEST, family, 0), ())
        self.assertEqual(claims(NOBODY, family, 100), ())

    def test_many_is_from_0_to_100(self):
        for many in (-1, 101, True, False, None, "1", (1,), 10 ** 900):
            self.assertEqual(raised(claims, ELDEST, chain(3), many), ("BadNumber", many))
            self.assertEqual(raised(claims, ELDEST, None, many), ("BadFamily", None))
            self.assertEqual(raised(claims, many=many, family=None, custom=None), ("BadCustom", "form"))

    def test_great_ones(self):
        family = ((0, True, ()),) + tuple((0, False, (number, number)) for number in range(198))
        told = claims(ELDEST, family, 100)
        self.assertEqual(told, tuple(sorted(told)))
        self.assertEqual(told[99], (0,) * 191 + tuple(int(bit) for bit in format(99, "07b")))
        told = claims(YOUNGEST, family, 100)
        self.assertEqual(told, tuple(sorted(told, reverse=True)))
        self.assertEqual(claims(ELDEST, chain(2000), 100)[-1], (0,) * 99)
        self.assertEqual(len(claims(ELDEST, with_members(10 ** 60), 100)), 100)

    def test_facts(self):
        for custom in customs(86, 20, marks=3):
            family = great_family(86)
            told = claims(custom, family, 40)
            self.assertEqual(len(set(told)), len(told))
            for way in told:
                self.assertTrue(own_line(family, way)[1])
            if told:
                mark, _, _ = own_line(family, told[0])
                self.assertEqual(claims(custom, marked(family, told[0], mark, False), 39), told[1:])


class PlaceOf(unittest.TestCase):

    def test_all_members(self):
        for custom in [ELDEST, YOUNGEST] + customs(87, 25):
            for family in all_families(3, 1) + small_families(88, 5, most=20, marks=1):
                told = line_of_claim(custom, grow(family))
                for way in ways_of(grow(family)):
                    place = told.index(way) if way in told else None
                    self.assertEqual(place_of(custom, family, way), place)
                    if not at(grow(family), way).is_alive:
                        self.assertIsNone(place)

    def test_up_to_300_members(self):
        self.assertEqual(place_of(ELDEST, chain(300), (0,) * 299), 299)
        self.assertEqual(raised(place_of, ELDEST, chain(301), (0,) * 299), ("TooGreat", 300))
        self.assertEqual(raised(place_of, ELDEST, chain(301), (1,)), ("BadWay", (1,)))
        self.assertEqual(raised(place_of, ELDEST, doubled(199), [0]), ("BadWay", [0]))
        self.assertEqual(raised(place_of, None, doubled(199), [0]), ("BadCustom", "form"))
        self.assertEqual(place_of(ELDEST, doubled(300) + chain(1), ()), 0)

    def test_by_name(self):
        self.assertEqual(place_of(way=(0,), family=chain(2), custom=ELDEST), 1)


class Paper(unittest.TestCase):

    def test_the_right_paper(self):
        for custom in [ELDEST, NOBODY] + customs(89, 20, marks=3):
            for family in small_families(90, 6) + [great_family(90)]:
                if custom[0] < 3:
                    family = tuple((0, is_alive, children) for _, is_alive, children in family)
                told = reading(custom, family)
                paper = heir_paper(custom, family)
                self.assertEqual(paper, ("heir", tuple(rank for rank, _ in told), told[-1][1]))
                self.assertEqual(check_heir(custom, family, paper), heir(custom, family))
                self.assertEqual(check_heir(custom, retold(family, 1) if custom[0] == 3 else family, paper),
                                 heir(custom, family))

    def test_the_example(self):
        family = ((0, True, ()), (0, True, ()), (0, False, (0, 1)))
        self.assertEqual(heir_paper(ELDEST, family), ("heir", (1, 1), (0,)))
        self.assertEqual(heir_paper(NOBODY, family), ("heir", (0, 0), None))

    def test_papers_with_a_part_wrong(self):
        family = ((0, True, ()), (0, False, (0, 0)))
        forms = (None, 0, [], (), ("heir", (1, 1)), ("heir", (1, 1), (0,), 0), ["heir", (1, 1), (0,)],
                 ("hair", (1, 1), (0,)), (None, (1, 1), (0,)), ("heir", [1, 1], (0,)), ("heir", None, (0,)),
                 ("heir", (1, True), (0,)), ("heir", (True, True), (0,)), ("heir", (1, "1"), (0,)), ("heir", "11",
                                                                                                     (0,)),
                 ("heir", (1, 1), [0]), ("heir", (1, 1), 0), ("heir", (1, 1), (False,)), ("heir", (1, 1), ("0",)),
                 ("heir", (1, 1), False), ("heir", (0, 0), "none"))
        for paper in forms:
            self.assertEqual(raised(check_heir, ELDEST, family, paper), ("BadPaper", "form"), paper)
        for ranks in ((), (1,), (0, 1), (1, 0), (1, 1, 1), (-1, 1), (7, 10 ** 900)):
            for way in ((0,), None, (1,)):
                self.assertEqual(raised(check_heir, ELDEST, family, ("heir", ranks, way)), ("BadPaper", "ranks"))
        for way in (None, (), (1,), (0, 0), (-1,)):
            self.assertEqual(raised(check_heir, ELDEST, family, ("heir", (1, 1), way)), ("BadPaper", "way"))
        self.assertEqual(raised(check_heir, NOBODY, family, ("heir", (0, 0), ())), ("BadPaper", "way"))
        self.assertIsNone(check_heir(NOBODY, family, ("heir", (0, 0), None)))

    def test_wrong_ones_in_their_order(self):
        self.assertEqual(raised(check_heir, None, None, None), ("BadCustom", "form"))
        self.assertEqual(raised(check_heir, ELDEST, (1,), None), ("BadFamily", 0))
        self.assertEqual(raised(check_heir, paper=None, family=chain(1), custom=ELDEST), ("BadPaper", "form"))
        for function in (heir, heir_paper):
            self.assertEqual(raised(function, None, None), ("BadCustom", "form"))
            self.assertEqual(raised(function, ELDEST, ((1, True, ()),)), ("BadFamily", 0))
            self.assertEqual(raised(function, family=[], custom=ELDEST), ("BadFamily", None))

    def test_arguments_stay_as_they_are(self):
        rng = random.Random(5)
        family = small_families(91, 1, marks=1)[0]
        before = repr((ELDEST, family))
        claims(ELDEST, family, rng.randint(1, 9))
        place_of(ELDEST, family, ())
        self.assertEqual(repr((ELDEST, family)), before)


if __name__ == "__main__":
    unittest.main()
