"""heirlines.renouncing: points [64] and [65]"""

import itertools
import random
import unittest

from heirlines.heirs import heir, place_of
from heirlines.renouncing import (all_fewest, behind_lot, fewest_renouncing, floor_paper, floor_shows, need_renouncers,
                                  renouncing_lot)
from heirlines.steady import is_steady
from tests.helper import (ELDEST, at, big_custom, chain, copied, customs, doubled, great_family, grow, heir_in, line_of_claim,
                          raised, random_family, size_of, small_families, tell, ways_of, with_members)

LEAF = (0, True, ())
# the eldest living child, or the founder if there is none
EXAMPLE = (1, (False, True), (False, True), (((0, "none"), (1, "new")), ((1, "old"), (1, "old"))),
           ((((0, "none"), (1, "line")), ((1, "self"), (1, "line"))),))
FAMILY = (LEAF, (0, True, (0, 0)))


def lots_of(founder):
    living = [way for way in ways_of(founder) if at(founder, way).is_alive]
    for many in range(len(living) + 1):
        for lot in itertools.combinations(living, many):
            yield lot


def fewest_by_lots(custom, founder):
    """FEWEST of all members, by all lots."""
    found = {}
    for lot in lots_of(founder):
        behind = copied(founder)
        for way in lot:
            at(behind, way).is_alive = False
        own = heir_in(custom, behind)
        if own is not None and own not in lot:
            found.setdefault(own, len(lot))
    return found


class Lots(unittest.TestCase):

    def test_need_renouncers(self):
        family = (LEAF, (0, False, (0, 0)), (0, True, (1, 0)))
        for lot in ((), ((),), ((), (0, 0), (0, 1), (1,)), ((1,),)):
            self.assertIs(need_renouncers(family, lot), lot)
        for lot, told in ((((0,),), (0,)), (((1,), (0, 0)), (0, 0)), (((1,), (1,)), (1,)), (((2,), None), (2,)),
                          ((None, (2,)), None), (((0, 0), (0,)), (0,)), (((True,),), (True,))):
            self.assertEqual(raised(need_renouncers, family, lot), ("BadWay", told))

    def test_behind_lot(self):
        for family in small_families(3700, 40, 9):
            founder = grow(family)
            for lot in list(lots_of(founder))[::7]:
                behind = copied(founder)
                for way in lot:
                    at(behind, way).is_alive = False
                self.assertEqual(behind_lot(family, lot), tell(behind))

    def test_more_lines_than_may_be_passed(self):
        family = doubled(150)
        # a way down by each child by turns, so that each line is read at new places
        lot = tuple(sorted({tuple((turn + level) // step % 2 for level in range(149))
                            for turn in (0, 1) for step in range(1, 40)}))
        behind = behind_lot(family, lot)
        self.assertGreater(len(behind), 2000)
        top = behind
        for way in lot[::9]:
            self.assertEqual(line_of(top, way)[1], False)
        self.assertEqual(line_of(top, (0,) * 148 + (1,))[1], True)


def line_of(family, way):
    line = family[-1]
    for place in way:
        line = family[line[2][place]]
    return line


class Fewest(unittest.TestCase):

    def test_the_example(self):
        self.assertEqual([fewest_renouncing(EXAMPLE, FAMILY, way) for way in ((0,), (1,), ())], [0, 1, 2])
        self.assertEqual(all_fewest(EXAMPLE, FAMILY), (((), 2), ((0,), 0), ((1,), 1)))
        self.assertEqual(renouncing_lot(EXAMPLE, FAMILY, ()), ((0,), (1,)))
        self.assertEqual(renouncing_lot(EXAMPLE, FAMILY, (1,)), ((0,),))
        self.assertEqual(renouncing_lot(EXAMPLE, FAMILY, (0,)), ())

    def test_all_lots_of_small_families(self):
        rng = random.Random(3701)
        for marks, most, many in ((1, 6, 40), (2, 5, 30)):
            families = small_families(3702 + marks, 60, 9, marks, 6)
            for custom in customs(3703, many, marks, most):
                for family in rng.sample(families, 4):
                    founder = grow(family)
                    told = fewest_by_lots(custom, founder)
                    self.assertEqual(all_fewest(custom, family), tuple(sorted(told.items())))
                    for way in ways_of(founder):
                        self.check(custom, family, way, told.get(way))

    def check(self, custom, family, way, fewest):
        self.assertEqual(fewest_renouncing(custom, family, way), fewest)
        lot = renouncing_lot(custom, family, way)
        if fewest is None:
            self.assertIsNone(lot)
        else:
            self.assertEqual(len(lot), fewest)
            need_renouncers(family, lot)
            self.assertNotIn(way, lot)
            self.assertEqual(heir(custom, behind_lot(family, lot)), way)
        paper = floor_paper(custom, family, way)
        self.assertEqual(floor_shows(custom, family, way, paper), fewest)

    def test_members_deep_down(self):
        rng = random.Random(3711)
        many = 0
        while many < 60:
            custom = big_custom(rng, rng.choice((1, 2)), rng.randint(2, 5), rng.randint(2, 5))
            family = random_family(rng, 8, custom[0], 2, 0.8)
            if size_of(family) > 14:
                continue
            for way in ways_of(grow(family)):
                fewest = fewest_renouncing(custom, family, way)
                if len(way) > 1 and fewest is not None and fewest > 0:
                    many += 1
                    self.check(custom, family, way, fewest)

    def test_steady_customs(self):
        families = small_families(3704, 40, 12, 1, 6)
        for custom in customs(3705, 120, 1, 4):
            if is_steady(custom):
                for family in families[::5]:
                    claims = line_of_claim(custom, grow(family))
                    self.assertEqual(all_fewest(custom, family),
                                     tuple(sorted((way, place) for place, way in enumerate(claims))))
                    for way in ways_of(grow(family)):
                        self.assertEqual(fewest_renouncing(custom, family, way), place_of(custom, family, way))

    def test_great_families(self):
        rng = random.Random(3706)
        for seed in range(4):
            family = great_family(seed, 3, low=10 ** 55)
            custom = big_custom(rng)
            own = heir(custom, family)
            if own is not None:
                self.assertEqual(fewest_renouncing(custom, family, own), 0)
                self.assertEqual(renouncing_lot(custom, family, own), ())
            way = (0,) * 4
            fewest = fewest_renouncing(custom, family, way)
            self.assertEqual(floor_shows(custom, family, way, floor_paper(custom, family, way)), fewest)

    def test_too_great(self):
        row = (LEAF, (0, False, (0,) * 302))
        self.assertEqual(fewest_renouncing(ELDEST, row, (301,)), 301)
        self.assertEqual(len(renouncing_lot(ELDEST, row, (300,))), 300)
        self.assertEqual(raised(renouncing_lot, ELDEST, row, (301,)), ("TooGreat", 300))
        self.assertEqual(raised(renouncing_lot, ELDEST, row, (302,)), ("BadWay", (302,)))
        self.assertIsNone(renouncing_lot(ELDEST, row, ()))
        self.assertEqual(raised(all_fewest, ELDEST, with_members(301)), ("TooGreat", 300))
        self.assertIsNone(raised(all_fewest, ELDEST, with_members(300)))
        tall = doubled(150)
        dead = ((0, False, ()),) + tuple((0, False, line[2]) for line in tall[1:])
        self.assertEqual(all_fewest(ELDEST, dead[:3]), ())
        # the youngest of very many
        last = (1,) * 149
        young = (LEAF,) + tuple((0, False, line[2]) for line in tall[1:])
        self.assertEqual(fewest_renouncing(ELDEST, young, last), 2 ** 149 - 1)
        self.assertEqual(raised(renouncing_lot, ELDEST, young, last), ("TooGreat", 300))


class Floors(unittest.TestCase):

    def test_papers_by_hand(self):
        # ranks 0 (nobody) and 1: a leaf, the founder; then the way (1,) and the founder above it
        paper = (((1, 0), (3, 0)), (((None, None), (0, None)), ((None, None), (1, 0))))
        self.assertEqual(floor_shows(EXAMPLE, FAMILY, (1,), paper), 1)
        self.assertEqual(floor_paper(EXAMPLE, FAMILY, (1,)), paper)
        lower = (((0, 0), (0, 0)), (((0, 0), (0, 0)), ((0, 0), (0, 0))))
        self.assertEqual(floor_shows(EXAMPLE, FAMILY, (1,), lower), 0)

    def test_costs_changed(self):
        for custom in customs(3707, 25, 1, 4):
            for family in small_families(3708, 8, 12, 1, 5):
                for way in list(ways_of(grow(family)))[:3]:
                    paper = floor_paper(custom, family, way)
                    fewest = fewest_renouncing(custom, family, way)
                    self.check_least(custom, family, way, paper)
                    self.check_led(custom, family, way, paper)
                    self.assertEqual(floor_shows(custom, family, way, paper), fewest)

    def check_least(self, custom, family, way, paper):
        least, led = paper
        for number, row in enumerate(least):
            for rank, cost in enumerate(row):
                for other in (None, cost + 1) if cost is not None else ():
                    told = least[:number] + (row[:rank] + (other,) + row[rank + 1:],) + least[number + 1:]
                    self.assertEqual(raised(floor_shows, custom, family, way, (told, led)), ("BadPaper", "lines"))

    def check_led(self, custom, family, way, paper):
        least, led = paper
        for place, row in enumerate(led):
            for rank, pair in enumerate(row):
                for side in (0, 1):
                    for other in (None, pair[side] + 1) if pair[side] is not None else ():
                        cell = (other, pair[1]) if side == 0 else (pair[0], other)
                        told = led[:place] + (row[:rank] + (cell,) + row[rank + 1:],) + led[place + 1:]
                        self.assertEqual(raised(floor_shows, custom, family, way, (least, told)), ("BadPaper", "way"))

    def test_lower_floors_hold(self):
        for custom in customs(3709, 30, 1, 4):
            for family in small_families(3710, 5, 12, 1, 5):
                for way in list(ways_of(grow(family)))[:3]:
                    least, led = floor_paper(custom, family, way)
                    least = tuple(tuple(0 for _ in row) for row in least)
                    led = tuple(tuple((0, 0) for _ in row) for row in led)
                    self.assertEqual(floor_shows(custom, family, way, (least, led)), 0)

    def test_forms(self):
        paper = floor_paper(EXAMPLE, FAMILY, (1,))
        least, led = paper
        for value in (None, list(paper), paper + ((),), (list(least), led), (least, list(led)), (least[:1], led),
                      (least, led[:1]), (least + least[:1], led), (least, led + led[:1]),
                      ((least[0], list(least[1])), led), (((1, -1), least[1]), led), (((1, "0"), least[1]), led),
                      (((True, 0), least[1]), led), (((1,), least[1]), led), (least, (led[0], (None, (1, 0)))),
                      (least, (led[0], ((None,), (1, 0)))), (least, (led[0], ((None, False), (1, 0))))):
            self.assertEqual(raised(floor_shows, EXAMPLE, FAMILY, (1,), value), ("BadPaper", "form"))
        both = ((least[0], (4, 0)), (led[0], ((None, None), (2, 0))))
        self.assertEqual(raised(floor_shows, EXAMPLE, FAMILY, (1,), both), ("BadPaper", "lines"))

    def test_a_dead_member(self):
        family = ((0, False, ()), LEAF, (0, True, (0, 1)))
        self.assertIsNone(fewest_renouncing(EXAMPLE, family, (0,)))
        paper = floor_paper(EXAMPLE, family, (0,))
        self.assertEqual(paper[1][0], ((None, 0), (None, None)))
        self.assertIsNone(floor_shows(EXAMPLE, family, (0,), paper))


if __name__ == "__main__":
    unittest.main()
