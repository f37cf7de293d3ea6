"""heirlines.chances: points [53], [54] and [56]"""

import itertools
import random
import unittest

from heirlines.chances import (can_be_heir, chance_at, fewest, fits, future_for, line_costs, newborn_costs)
from heirlines.futures import deeds_to
from heirlines.shorts import short
from tests.helper import (ELDEST, NOBODY, YOUNGEST, at, big_customs, chain, customs, doubled, futures_by_few,
                          great_family, grow, heir_in, narrow, nested, raised, read_member, size_of,
                          small_families, ways_of, with_members)

LEAF = (0, True, ())
DEAD = (0, False, ())
FAMILY = (LEAF, DEAD, (0, True, (0, 1)))


def is_wished(wish, heir, ways):
    if wish[0] == "heir":
        return heir == wish[1]
    if wish[0] == "another":
        return heir != wish[1]
    return heir is None if wish[0] == "none" else heir is not None and heir not in ways


def are_kept(family, terms, later):
    one, two = grow(family), grow(later)
    told = {"lives": lambda way: at(two, way).is_alive, "dead": lambda way: not at(two, way).is_alive,
            "quiet": lambda way: nested(at(one, way)) == nested(at(two, way))}
    return all(told[word](way) for way, word in terms)


def random_asked(rng, ways):
    """A wish and terms."""
    wish = rng.choice((("newborn",), ("none",), ("heir", rng.choice(ways)), ("another", rng.choice(ways))))
    named = rng.sample(ways, rng.randint(0, min(3, len(ways))))
    return wish, tuple((way, rng.choice(("lives", "dead", "quiet"))) for way in named)


class Cases:
    """Customs with small families and all their futures by few deeds."""

    def __init__(self):
        self.told = []
        rng = random.Random(1700)
        for custom in [ELDEST, YOUNGEST] + customs(1701, 6, 1, 4) + big_customs(1702, 12, 1, 3, 3) + big_customs(
                1703, 4, 2, 3, 3):
            most = 3 if custom[0] == 1 else 2
            for family in small_families(rng.randrange(10 ** 6), 3, most=5, marks=custom[0], lines=4):
                found = futures_by_few(family, most, custom[0])
                heirs = {later: heir_in(custom, grow(later)) for later in found}
                self.told.append((custom, short(family), most, found, heirs))


CASES = Cases().told


class Costs(unittest.TestCase):

    def test_newborn_ones_against_all_futures(self):
        for custom in [ELDEST, YOUNGEST, NOBODY] + customs(1704, 10, 1, 4) + big_customs(1705, 8, 1, 3, 3):
            # a newborn member below a founder; the founder itself does nothing
            found = futures_by_few((LEAF, (0, True, (0,))), 3, 1)
            least = {}
            for later, (many, _) in found.items():
                founder = grow(later)
                if founder.is_alive and len(founder.children) == 1:
                    rank = read_member(custom, founder.children[0])[0]
                    least[rank] = min(least.get(rank, 99), many + 1)
            told = newborn_costs(custom)
            self.assertEqual(len(told), len(custom[2]))
            self.assertEqual({rank: cost for rank, cost in enumerate(told) if cost is not None and cost <= 4}, least)

    def test_newborn_ones_by_hand(self):
        self.assertEqual(newborn_costs(ELDEST), (2, 1))
        self.assertEqual(newborn_costs(NOBODY), (1,))
        twice = (1, (False,), (False, False), (((0, "none"),) * 2,), ((((0, "none"),), ((0, "none"),)),))
        self.assertEqual(newborn_costs(twice), (1, None))

    def test_lines_against_all_futures(self):
        for custom, family, most, found, _ in CASES:
            least = {}
            for later, (many, _) in found.items():
                rank = read_member(custom, grow(later))[0]
                least[rank] = min(least.get(rank, 99), many)
            told = line_costs(custom, family)
            self.assertEqual(len(told), len(family))
            self.assertEqual({rank: cost for rank, cost in enumerate(told[-1]) if cost is not None and cost <= most},
                             least)
            for place, line in enumerate(told):
                self.assertEqual(line_costs(custom, family[:place + 1])[-1], line)
                self.assertEqual(len(line), len(custom[2]))

    def test_great_ones(self):
        family = doubled(99)
        self.assertEqual(line_costs(ELDEST, family)[-1], (size_of(family), 0))
        self.assertEqual(line_costs(ELDEST, ((0, False, ()),)), ((0, None),))


class Fewest(unittest.TestCase):

    def test_against_all_futures_by_few_deeds(self):
        rng = random.Random(1706)
        for custom, family, most, found, heirs in CASES:
            ways = ways_of(grow(family))
            for _ in range(12):
                wish, terms = random_asked(rng, ways)
                right = [later for later in found
                         if are_kept(family, terms, later) and is_wished(wish, heirs[later], ways)]
                least = min([found[later][0] for later in right], default=None)
                told = fewest(custom, family, wish, terms)
                self.assertEqual(told if told is None or told <= most else None, least)
                for later in rng.sample(sorted(found), min(len(found), 12)) + right[:5]:
                    self.assertIs(fits(custom, family, wish, terms, later), later in right)
                if told is None:
                    self.assertEqual(raised(future_for, custom, family, wish, terms), ("NothingBack",))
                else:
                    later = future_for(custom, family, wish, terms)
                    self.assertEqual(short(later), later)
                    self.assertIs(fits(custom, family, wish, terms, later), True)
                    self.assertEqual(deeds_to(family, later), told)
                    self.assertTrue(are_kept(family, terms, later))
                    self.assertTrue(is_wished(wish, heir_in(custom, grow(later)), ways))

    def test_terms_one_above_another(self):
        family = (LEAF, (0, True, (0,)), (0, True, (1, 0)))
        ways = ways_of(grow(family))
        found = futures_by_few(family, 3, 1)
        for custom in (ELDEST, YOUNGEST) + tuple(big_customs(1707, 3, 1, 3, 3)):
            heirs = {later: heir_in(custom, grow(later)) for later in found}
            for words in itertools.product(("lives", "dead", "quiet", None), repeat=3):
                terms = tuple((way, word) for way, word in zip(((0, 0), (0,), ()), words) if word is not None)
                kept = [later for later in found if are_kept(family, terms, later)]
                for wish in (("newborn",), ("none",), ("heir", (0, 0)), ("another", (1,)), ("heir", (0,))):
                    least = min([found[later][0] for later in kept if is_wished(wish, heirs[later], ways)],
                                default=None)
                    told = fewest(custom, family, wish, terms)
                    self.assertEqual(told if told is None or told <= 3 else None, least)

    def test_terms_that_never_hold(self):
        # the dead stay so, and a quiet line has no deeds
        self.assertIsNone(fewest(ELDEST, FAMILY, ("none",), (((1,), "lives"),)))
        self.assertIsNone(fewest(ELDEST, FAMILY, ("none",), (((), "quiet"), ((0,), "dead"))))
        self.assertIsNone(fewest(ELDEST, FAMILY, ("none",), (((), "quiet"), ((1,), "lives"))))
        self.assertEqual(fewest(ELDEST, FAMILY, ("heir", ()), (((), "quiet"), ((1,), "dead"))), 0)
        self.assertEqual(fewest(ELDEST, FAMILY, ("heir", (0,)), (((1,), "dead"), ((0,), "lives"))), 1)
        self.assertEqual(fewest(ELDEST, FAMILY, ("none",)), 2)
        self.assertEqual(future_for(ELDEST, FAMILY, ("none",)), (DEAD, (0, False, (0, 0))))
        self.assertEqual(fewest(ELDEST, FAMILY, ("newborn",)), 3)
        self.assertEqual(fewest(YOUNGEST, FAMILY, ("newborn",)), 1)
        self.assertEqual(fewest(NOBODY, FAMILY, ("another", ()), (((), "quiet"),)), 0)
        self.assertIsNone(fewest(NOBODY, FAMILY, ("newborn",)))

    def test_great_ones(self):
        family = doubled(99)
        way = (0, 1) * 20
        self.assertEqual(fewest(ELDEST, family, ("heir", way)), size_of(family) * 0 + self.deaths_ahead(family, way))
        later = future_for(ELDEST, family, ("heir", way))
        self.assertIs(fits(ELDEST, family, ("heir", way), (), later), True)
        self.assertEqual(deeds_to(family, later), self.deaths_ahead(family, way))
        self.assertEqual(fewest(ELDEST, family, ("none",)), size_of(family))
        self.assertEqual(deeds_to(family, future_for(ELDEST, family, ("none",))), size_of(family))

    def deaths_ahead(self, family, way):
        """All that come ahead in "first"."""
        many, left = 0, len(family)
        for place in way:
            left -= 1
            many += 1 + place * (2 ** left - 1)
        return many

    def test_wrong_wishes(self):
        for wish in (None, 0, "", "none", (), [], ["none"], ("heir",), ("another",), ("newborn", ()), ("none", ()),
                     ("None",), ("heir", (), ()), (None,), (["none"],), ("lives", ()), (0, ())):
            for function, more in ((fewest, (None,)), (future_for, ()), (fits, (None, None))):
                self.assertEqual(raised(function, ELDEST, FAMILY, wish, *more), ("BadWish", "form"))
        for way in (None, 0, [], "", (2,), (0, 0), (True,), (-1,), ((),), (10 ** 900,)):
            for word in ("heir", "another"):
                for function, more in ((fewest, (None,)), (future_for, ()), (fits, (None, None))):
                    self.assertEqual(raised(function, ELDEST, FAMILY, (word, way), *more), ("BadWish", "way"))

    def test_wrong_terms(self):
        good = ((), "lives")
        for terms in (None, 0, "", [], [good], {}, (good,) * 41, (None,) * 41):
            self.assertEqual(raised(fewest, ELDEST, FAMILY, ("none",), terms), ("BadTerms", None))
            self.assertEqual(raised(fits, ELDEST, FAMILY, ("none",), terms, None), ("BadTerms", None))
        for item in (None, 0, (), [(), "lives"], ((),), ((), "lives", 0), ((2,), "lives"), ((0, 0), "dead"),
                     ((True,), "lives"), ([0], "quiet"), (None, "dead"), ((0,), "Lives"), ((0,), None),
                     ((0,), ["dead"]), ((), "dead"), ((), "lives")):
            self.assertEqual(raised(fewest, ELDEST, FAMILY, ("none",), (good, item)), ("BadTerms", 1))
            self.assertEqual(raised(fits, ELDEST, FAMILY, ("none",), (good, ((0,), "dead"), item, None), None),
                             ("BadTerms", 2))
        wide = (LEAF, (0, True, (0,) * 20), (0, True, (1,) * 4))
        terms = tuple((way, "dead") for way in ways_of(grow(wide))[:40])
        self.assertEqual(fewest(NOBODY, wide, ("none",), terms), 40)
        self.assertEqual(raised(fewest, NOBODY, wide, ("none",), terms + terms[:1]), ("BadTerms", None))

    def test_fits_asks_later_alone(self):
        great = with_members(10 ** 60)
        self.assertIs(fits(ELDEST, (LEAF,), ("heir", ()), (), great), True)
        self.assertEqual(raised(fits, ELDEST, (LEAF,), ("heir", ()), (), with_members(10 ** 60 + 1)),
                         ("BadFamily", None))
        self.assertEqual(raised(fits, ELDEST, (LEAF,), ("heir", ()), (), (LEAF, (1, True, ()))), ("BadFamily", 1))
        self.assertIs(fits(ELDEST, (LEAF,), ("heir", ()), (), chain(2000)), True)
        self.assertIs(fits(ELDEST, (LEAF,), ("heir", ()), (), (LEAF, (0, True, (0,) * 600))), True)
        self.assertIs(fits(ELDEST, (DEAD,), ("heir", ()), (), (LEAF,)), False)


class Heirs(unittest.TestCase):

    def test_against_wishes(self):
        for custom, family, _, _, _ in CASES:
            self.check(custom, family)
        for custom in customs(1708, 30, 2, 5) + big_customs(1709, 10):
            for family in small_families(1710, 3, most=15, marks=custom[0]):
                self.check(custom, family)

    def check(self, custom, family):
        founder = grow(family)
        right = [way for way in ways_of(founder)
                 if at(founder, way).is_alive and fewest(custom, family, ("heir", way)) is not None]
        self.assertEqual(can_be_heir(custom, family), len(right))
        self.assertEqual([chance_at(custom, family, number) for number in range(len(right))], sorted(right))
        for number in (len(right), -1, True, False, None, "0", (0,), 10 ** 900):
            self.assertEqual(raised(chance_at, custom, family, number), ("BadNumber", number))

    def test_great_ones(self):
        family = doubled(99)
        self.assertEqual(can_be_heir(ELDEST, family), size_of(family))
        self.assertEqual(chance_at(ELDEST, family, size_of(family) - 1), (1,) * 98)
        self.assertEqual(chance_at(ELDEST, family, 99), (0,) * 97 + (1,))
        self.assertEqual(can_be_heir(NOBODY, family), 0)
        for seed, custom in enumerate(big_customs(1711, 6)):
            family = great_family(seed, low=10 ** 14, spread=3)
            many = can_be_heir(custom, family)
            for number in {0, many // 3, many - 1} - {-1}:
                way = chance_at(custom, family, number) if many else None
                if many:
                    self.assertIsNotNone(fewest(custom, family, ("heir", way)))


class Bounds(unittest.TestCase):
    CALLS = ((line_costs, ()), (can_be_heir, ()), (chance_at, (None,)), (fewest, (None, None)),
             (future_for, (None, None)), (fits, (None, None, None)))

    def test_lines_children_and_members(self):
        right = (chain(100), (LEAF, (0, True, (0,) * 24)), narrow(10 ** 30))
        for family in right:
            self.assertLessEqual(len(short(family)), 100)
            self.assertIsNone(raised(line_costs, ELDEST, family))
            self.assertIsNone(raised(can_be_heir, ELDEST, family))
            self.assertEqual(raised(chance_at, ELDEST, family, None), ("BadNumber", None))
            self.assertEqual(raised(fewest, ELDEST, family, None, None), ("BadWish", "form"))
        wide = (LEAF, (0, True, (0,) * 25))
        great = narrow(10 ** 30 + 1)
        self.assertLessEqual(len(short(great)), 100)
        long = chain(101)
        for function, more in self.CALLS:
            self.assertEqual(raised(function, ELDEST, long, *more), ("TooGreat", 100))
            self.assertEqual(raised(function, ELDEST, wide, *more), ("TooGreat", 24))
            self.assertEqual(raised(function, ELDEST, great, *more), ("TooGreat", 10 ** 30))
            # in their order
            both = chain(100) + ((0, True, (99,) * 25),)
            self.assertEqual(raised(function, ELDEST, both, *more), ("TooGreat", 100))
            both = great + ((0, True, (len(great) - 1,) + (0,) * 24),)
            self.assertEqual(raised(function, ELDEST, both, *more), ("TooGreat", 24))
            self.assertEqual(raised(function, ELDEST, both[:-1] + ((1, True, ()),), *more), ("BadFamily", len(great)))
            self.assertEqual(raised(function, None, both, *more), ("BadCustom", "form"))
            self.assertEqual(raised(function, ELDEST, with_members(10 ** 60 + 1), *more), ("BadFamily", None))

    def test_needless_lines_are_not_counted(self):
        family = chain(150)[:101] + ((0, True, (0,) * 25), (0, True, (0, 0)))
        self.assertIsNone(raised(line_costs, ELDEST, family))
        self.assertEqual(len(line_costs(ELDEST, family)), 2)
        self.assertEqual(len(line_costs(ELDEST, (LEAF,) * 200 + ((0, True, (5, 100)),))), 2)

    def test_the_spine(self):
        # 24 chains of 12 members below one founder, and the founder itself
        family = chain(99) + ((0, True, (98,) * 3 + (5,) + (0,)),)
        ways = [(place,) + (0,) * 98 for place in range(3)]
        terms = tuple((way, "lives") for way in ways)
        # 3 * 99 ways, the founder's, and those of a short chain
        self.assertIsNone(raised(fewest, ELDEST, family, ("none",), terms))
        self.assertIsNone(raised(fewest, ELDEST, family, ("heir", (3, 0)), terms))
        self.assertEqual(raised(fewest, ELDEST, family, ("heir", (3, 0, 0)), terms), ("TooGreat", 300))
        self.assertEqual(raised(future_for, ELDEST, family, ("heir", (3, 0, 0)), terms), ("TooGreat", 300))
        self.assertEqual(raised(fits, ELDEST, family, ("heir", (3, 0, 0)), terms, None), ("TooGreat", 300))
        self.assertEqual(raised(fits, ELDEST, family, ("heir", (3, 0)), terms, None), ("BadFamily", None))
        self.assertEqual(raised(fewest, ELDEST, family, ("heir", (3, 0, 0)), terms + (None,)), ("BadTerms", 3))
        self.assertEqual(raised(fewest, ELDEST, family, ("heir", (9,)), terms + (None,)), ("BadWish", "way"))


if __name__ == "__main__":
    unittest.main()
