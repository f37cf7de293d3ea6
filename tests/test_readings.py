"""heirlines.readings: points [14] and [25]"""

import itertools
import unittest

from heirlines.readings import rank_of, reading, stand_behind
from heirlines.shorts import short
from tests.helper import (ELDEST, NOBODY, YOUNGEST, all_families, chain, customs, doubled, great_family, grow, raised,
                          read_member, retold, size_of, small_families, with_members)

LEAF = (0, True, ())


def slow_reading(custom, family):
    """By reading some member of each line alone."""
    founder = grow(family)
    found = []
    for number in range(len(short(family))):
        found.append(read_member(custom, grow(short(family), number)))
    assert found[-1] == read_member(custom, founder)
    return tuple(found)


class Reading(unittest.TestCase):

    def test_the_example(self):
        family = ((0, True, ()), (0, True, ()), (0, False, (0, 1)))
        self.assertEqual(reading(ELDEST, family), ((1, ()), (1, (0,))))
        self.assertEqual(rank_of(ELDEST, family), 1)
        self.assertEqual(reading(YOUNGEST, family), ((1, ()), (1, (1,))))
        self.assertEqual(reading(NOBODY, family), ((0, None), (0, None)))

    def test_all_small_families(self):
        families = all_families(4, 1)
        for custom in [ELDEST, YOUNGEST, NOBODY] + customs(70, 12):
            for family in families:
                told = slow_reading(custom, family)
                self.assertEqual(reading(custom, family), told)
                self.assertEqual(rank_of(custom, family), told[-1][0])

    def test_random_families_with_marks(self):
        for custom in customs(71, 40, marks=3, most=6):
            for family in small_families(72, 12, most=40):
                self.assertEqual(reading(custom, family), slow_reading(custom, family))

    def test_however_the_family_is_told(self):
        for custom in customs(73, 15, marks=3):
            for number, family in enumerate(small_families(74, 10) + [great_family(70)]):
                told = retold(family, number)
                self.assertEqual(reading(custom, told), reading(custom, family))
                self.assertEqual(rank_of(custom, told), rank_of(custom, family))

    def test_needless_lines_are_not_told(self):
        self.assertEqual(reading(ELDEST, chain(9) + (LEAF,)), ((1, ()),))

    def test_facts(self):
        for custom in customs(75, 25, marks=2):
            for family in small_families(76, 8, marks=2) + [great_family(71, marks=2)]:
                lines = short(family)
                told = reading(custom, family)
                self.assertEqual(len(told), len(lines))
                for (mark, is_alive, children), (rank, holder) in zip(lines, told):
                    self.assertEqual(holder is None, not custom[2][rank])
                    if holder:
                        self.assertEqual(holder[1:], told[children[holder[0]]][1])
                    if holder == ():
                        self.assertTrue(is_alive)
                    stand, place = stand_behind(custom, tuple(told[child][0] for child in children))
                    self.assertEqual(custom[4][mark][1 if is_alive else 0][stand][0], rank)
                    self.assertEqual(place is not None, custom[1][stand])

    def test_long_ones(self):
        dead = chain(2000, is_alive=False)
        self.assertEqual(reading(ELDEST, dead), ((0, None),) * 2000)
        alive = ((0, True, ()),) + dead[1:]
        self.assertEqual(reading(ELDEST, alive), tuple((1, (0,) * level) for level in range(2000)))
        self.assertEqual(rank_of(ELDEST, alive), 1)

    def test_shared_families_of_2000_lines_and_of_many_members(self):
        shared = great_family(72, low=10 ** 50)
        long = chain(2000 - len(shared))
        told = shared + tuple((mark, is_alive, tuple(len(shared) + child for child in children)
                               + (len(shared) - 1 - number % 20,))
                              for number, (mark, is_alive, children) in enumerate(long))
        self.assertEqual((len(told), len(str(size_of(told))) > 40), (2000, True))
        for custom in customs(78, 12, marks=3):
            for family in (shared, told):
                lines, pairs = short(family), reading(custom, family)
                self.assertEqual(rank_of(custom, family), pairs[-1][0])
                for (mark, is_alive, children), (rank, holder) in zip(lines, pairs):
                    stand, place = stand_behind(custom, tuple(pairs[child][0] for child in children))
                    closed = custom[4][mark][1 if is_alive else 0][stand]
                    wanted = {"none": None, "self": (), "line": place}[closed[1]]
                    if closed[1] == "line":
                        wanted = (place,) + pairs[children[place]][1]
                    self.assertEqual((rank, holder), (closed[0], wanted))

    def test_great_ones(self):
        dead = tuple((mark, number == 0, children) for number, (mark, _, children) in enumerate(doubled(199)))
        self.assertEqual(reading(ELDEST, dead)[-1], (1, (0,) * 198))
        self.assertEqual(reading(YOUNGEST, dead)[-1], (1, (1,) * 198))
        self.assertEqual(reading(YOUNGEST, with_members(10 ** 60))[-1][0], 1)


class StandBehind(unittest.TestCase):

    def test_by_hand(self):
        self.assertEqual(stand_behind(ELDEST, ()), (0, None))
        self.assertEqual(stand_behind(ELDEST, (0, 0)), (0, None))
        self.assertEqual(stand_behind(ELDEST, (0, 1, 0, 1)), (1, 1))
        self.assertEqual(stand_behind(YOUNGEST, (0, 1, 0, 1, 0)), (1, 3))

    def test_against_reading(self):
        for custom in customs(77, 40):
            for many in range(5):
                for ranks in itertools.product(range(len(custom[2])), repeat=many):
                    stand, held = 0, None
                    for place, rank in enumerate(ranks):
                        stand, keep = custom[3][stand][rank]
                        held = {"new": place, "old": held, "none": None}[keep]
                    self.assertEqual(stand_behind(custom, ranks), (stand, held))
                if many == 3 and len(custom[2]) > 3:
                    break

    def test_many_ranks(self):
        self.assertEqual(stand_behind(YOUNGEST, (1,) * 2000), (1, 1999))
        self.assertEqual(raised(stand_behind, YOUNGEST, (1,) * 2001), ("BadNumber", (1,) * 2001))

    def test_ranks_that_are_none(self):
        for ranks in (None, 0, [0], "0", (2,), (0, 2), (-1,), (True,), (False,), (None,), ("0",), ((0,),),
                      (10 ** 900,)):
            self.assertEqual(raised(stand_behind, ELDEST, ranks), ("BadNumber", ranks))
            self.assertEqual(raised(stand_behind, ranks=ranks, custom=ELDEST), ("BadNumber", ranks))
            self.assertEqual(raised(stand_behind, None, ranks), ("BadCustom", "form"))


class WrongOnes(unittest.TestCase):

    def test_marks_below_the_customs(self):
        two = (2,) + ELDEST[1:4] + (ELDEST[4] * 2,)
        family = (LEAF, (1, True, ()), (2, True, ()), LEAF)
        for function in (rank_of, reading):
            self.assertEqual(raised(function, ELDEST, family), ("BadFamily", 1))
            self.assertEqual(raised(function, two, family), ("BadFamily", 2))
            self.assertEqual(raised(function, two, family[:2] + family[3:]), None)
            self.assertEqual(raised(function, (), None), ("BadCustom", "form"))
            self.assertEqual(raised(function, ELDEST, None), ("BadFamily", None))
            self.assertEqual(raised(function, family=(LEAF, 1), custom=ELDEST), ("BadFamily", 1))
            self.assertEqual(raised(function, ELDEST, with_members(10 ** 60 + 1)), ("BadFamily", None))


if __name__ == "__main__":
    unittest.main()
