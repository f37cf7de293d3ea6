"""heirlines.least: points [41] and [42]"""

import random
import unittest

from heirlines.alike import are_alike
from heirlines.customs import is_custom, renumbered
from heirlines.heirs import heir
from heirlines.least import least_custom, led_numbers, like_lots, size_of
from heirlines.reached import is_needed, reached_ranks, reached_stands
from tests.helper import (ELDEST, NOBODY, YOUNGEST, all_customs, all_families, big_customs, customs, grow, heir_in,
                          raised, small_families, with_place_changed, with_states_twice, with_turns)


class LeastCustom(unittest.TestCase):

    def test_the_same_heirs(self):
        for marks in (1, 2, 3):
            families = small_families(800, 30, most=30, marks=marks)
            for custom in customs(801, 25, marks, 8):
                least = least_custom(custom)
                self.assertTrue(is_custom(least))
                self.assertTrue(are_alike(custom, least))
                for family in families:
                    self.assertEqual(heir(least, family), heir(custom, family))

    def test_its_own_least_custom(self):
        for marks in (1, 2, 3):
            for custom in customs(802, 40, marks, 8) + big_customs(803, 4, marks):
                least = least_custom(custom)
                self.assertEqual(least_custom(least), least)
                self.assertEqual(size_of(custom), (len(least[1]), len(least[2])))

    def test_one_for_all_alike_ones(self):
        rng = random.Random(804)
        for custom in customs(805, 60, 2, 6):
            least = least_custom(custom)
            self.assertEqual(least_custom(renumbered(custom, *with_turns(custom, rng))), least)
            self.assertEqual(least_custom(with_states_twice(custom, rng)), least)

    def test_the_same_exactly_if_alike_by_all_small_customs(self):
        founders = [grow(family) for family in all_families(4, 1)]
        by_heirs, by_least = {}, {}
        for custom in all_customs(2, 2) + all_customs(1, 2) + all_customs(2, 1) + all_customs(1, 1):
            heirs = tuple(heir_in(custom, founder) for founder in founders)
            by_heirs.setdefault(heirs, set()).add(least_custom(custom))
            by_least.setdefault(least_custom(custom), set()).add(heirs)
        # so small ones part in families of at most four members, or never
        self.assertTrue(all(len(found) == 1 for found in by_heirs.values()))
        self.assertTrue(all(len(found) == 1 for found in by_least.values()))
        self.assertEqual(len(by_heirs), 46)

    def test_the_same_exactly_if_alike_by_near_ones(self):
        rng = random.Random(806)
        told = {True: 0, False: 0}
        for custom in customs(807, 150, 2, 4) + customs(808, 50, 1, 6):
            other = with_place_changed(custom, rng)
            is_alike = are_alike(custom, other)
            told[is_alike] += 1
            self.assertIs(least_custom(custom) == least_custom(other), is_alike)
        self.assertGreater(min(told.values()), 20)

    def test_no_smaller_one_names_the_same_heirs(self):
        least = {least_custom(custom) for custom in all_customs(2, 2) + all_customs(1, 2) + all_customs(2, 1)}
        founders = [grow(family) for family in all_families(4, 1)]
        heirs = {one: tuple(heir_in(one, founder) for founder in founders) for one in least}
        for custom in all_customs(1, 2) + all_customs(2, 1) + all_customs(1, 1):
            named = tuple(heir_in(custom, founder) for founder in founders)
            for one in least:
                if heirs[one] == named:
                    self.assertLessEqual((len(one[1]), len(one[2])), (len(custom[1]), len(custom[2])))

    def test_by_hand(self):
        # the dead founder alone comes ahead of the living one
        self.assertEqual(least_custom(ELDEST), ELDEST)
        self.assertEqual(least_custom(YOUNGEST), YOUNGEST)
        self.assertEqual(least_custom(NOBODY), NOBODY)
        self.assertEqual(least_custom(renumbered(ELDEST, (0, 1), (1, 0))), ELDEST)
        # what is held is never picked, so no stand holds anything and all children are read alike
        close = ((((0, "none"), (0, "none")), ((1, "self"), (1, "self"))),)
        self.assertEqual(least_custom((1, (False, True), (False, True), ELDEST[3], close)),
                         (1, (False,), (False, True), (((0, "none"), (0, "none")),),
                          ((((0, "none"),), ((1, "self"),)),)))

    def slow_numbers(self, custom):
        """The numbers that the rounds give to the stands and ranks of a custom that is as small as can be."""
        stands, ranks = [0], []
        while True:
            many = len(stands), len(ranks)
            for stand in stands:
                for mark in range(custom[0]):
                    for life in (0, 1):
                        rank = custom[4][mark][life][stand][0]
                        if rank not in ranks:
                            ranks.append(rank)
            for stand in list(stands):
                for rank in ranks:
                    behind = custom[3][stand][rank][0]
                    if behind not in stands:
                        stands.append(behind)
            if many == (len(stands), len(ranks)):
                return stands, ranks

    def test_the_rounds_of_numbering(self):
        rng = random.Random(809)
        for custom in customs(810, 60, 3, 8) + big_customs(811, 6):
            least = least_custom(custom)
            stands, ranks = self.slow_numbers(least)
            self.assertEqual((stands, ranks), (list(range(len(least[1]))), list(range(len(least[2])))))
            turned = renumbered(least, *with_turns(least, rng))
            stands, ranks = self.slow_numbers(turned)
            numbers = led_numbers(turned)
            self.assertEqual(numbers, (tuple(stands.index(at) for at in range(len(stands))),
                                       tuple(ranks.index(at) for at in range(len(ranks)))))
            self.assertEqual(renumbered(turned, *numbers), least)

    def test_wrong_ones(self):
        for function in (least_custom, led_numbers, size_of, like_lots):
            self.assertEqual(raised(function, None), ("BadCustom", "form"))
            self.assertEqual(raised(function, custom=ELDEST[:3] + (None, None)), ("BadCustom", "read"))


class Numbers(unittest.TestCase):

    def test_led_numbers(self):
        rng = random.Random(812)
        for custom in customs(813, 60, 2, 8):
            if len(custom[1]) < 8 and len(custom[2]) < 8:
                custom = with_states_twice(custom, rng)
            least = least_custom(custom)
            stands, ranks = led_numbers(custom)
            self.assertEqual((len(stands), len(ranks)), (len(custom[1]), len(custom[2])))
            self.assertEqual(stands[0], 0)
            self.assertEqual(reached_stands(custom), tuple(at for at, led in enumerate(stands) if led is not None))
            self.assertEqual(reached_ranks(custom), tuple(at for at, led in enumerate(ranks) if led is not None))
            for stand in reached_stands(custom):
                self.assertIs(least[1][stands[stand]], is_needed(custom, stand))
                for rank in reached_ranks(custom):
                    self.assertIs(least[2][ranks[rank]], custom[2][rank])
                    behind, keep = custom[3][stand][rank]
                    keep = keep if is_needed(custom, behind) else "none"
                    self.assertEqual(least[3][stands[stand]][ranks[rank]], (stands[behind], keep))
                for mark in range(custom[0]):
                    for life in (0, 1):
                        rank, pick = custom[4][mark][life][stand]
                        self.assertEqual(least[4][mark][life][stands[stand]], (ranks[rank], pick))

    def test_like_lots(self):
        rng = random.Random(814)
        for custom in customs(815, 60, 2, 7):
            custom = with_states_twice(custom, rng)
            for lots, numbers in zip(like_lots(custom), led_numbers(custom)):
                reached = [at for at, led in enumerate(numbers) if led is not None]
                self.assertEqual(sorted(at for lot in lots for at in lot), reached)
                self.assertEqual(tuple(sorted(tuple(sorted(lot)) for lot in lots)), lots)
                for lot in lots:
                    self.assertEqual({numbers[at] for at in lot}, {numbers[lot[0]]})
                self.assertEqual(len({numbers[lot[0]] for lot in lots}), len(lots))

    def test_by_hand(self):
        twice = (1, (False, True, True), (False, True, True),
                 (((0, "none"), (1, "new"), (2, "new")),) + (((2, "old"), (1, "old"), (1, "old")),) * 2,
                 ((((0, "none"), (2, "line"), (1, "line")), ((1, "self"), (2, "self"), (1, "self"))),))
        self.assertTrue(is_custom(twice))
        self.assertEqual(like_lots(twice), (((0,), (1, 2)), ((0,), (1, 2))))
        self.assertEqual(led_numbers(twice), ((0, 1, 1), (0, 1, 1)))
        self.assertEqual(least_custom(twice), ELDEST)
        self.assertEqual(size_of(twice), (2, 2))
        lone = (1, (False, True), (True, False), (((1, "new"), (0, "none")),) * 1 + (((1, "new"), (0, "none")),),
                ((((1, "none"), (1, "none")), ((1, "none"), (0, "self"))),))
        self.assertEqual(led_numbers(lone), ((0, None), (None, 0)))
        self.assertEqual(like_lots(lone), (((0,),), ((1,),)))


if __name__ == "__main__":
    unittest.main()
