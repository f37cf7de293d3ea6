"""heirlines.futures: points [51] and [52]"""

import itertools
import math
import random
import unittest

from heirlines.deeds import behind
from heirlines.futures import (between, deeds_to, earliest_future, is_future, latest_past, stories, story_to)
from heirlines.shorts import short
from tests.helper import (all_families, at, chain, doubled, futures_by_few, great_family, grow, raised, random_story,
                          retold, size_of, small_families, tell, ways_of, with_members)

LEAF = (0, True, ())
DEAD = (0, False, ())
WIDE = (LEAF, (0, True, (0,) * 400))


def slow_is_future(family, later):
    """By the words of the facts."""
    one, two = grow(family), grow(later)
    there = set(ways_of(two))
    for way in ways_of(one):
        if way not in there or at(one, way).mark != at(two, way).mark:
            return False
        if not at(one, way).is_alive:
            if at(two, way).is_alive or len(at(one, way).children) != len(at(two, way).children):
                return False
    return True


def slow_story(family, later):
    one, two = grow(family), grow(later)
    there = set(ways_of(one))
    births = [("birth", way[:-1], at(two, way).mark) for way in sorted(ways_of(two)) if way not in there]
    deaths = [("death", way) for way in sorted(ways_of(two))
              if not at(two, way).is_alive and (way not in there or at(one, way).is_alive)]
    return tuple(births + deaths)


class Futures(unittest.TestCase):

    def test_all_rows_of_deeds_of_small_families(self):
        families = all_families(5, 1)
        for family in all_families(3, 1):
            found = futures_by_few(family, 3, 1)
            for later in families:
                self.assertIs(is_future(family, later), slow_is_future(family, later))
                if later in found:
                    self.check(family, later, found[later], found)
                elif is_future(family, later):
                    self.assertGreater(deeds_to(family, later), 3)
                else:
                    for function in (deeds_to, story_to, stories, between):
                        self.assertEqual(raised(function, family, later), ("NothingBack",))

    def check(self, family, later, told, found):
        self.assertIs(is_future(family, later), True)
        self.assertEqual(deeds_to(family, later), told[0])
        self.assertEqual(stories(family, later), told[1])
        story = story_to(family, later)
        self.assertEqual(story, slow_story(family, later))
        self.assertEqual(behind(family, story), later)
        self.assertEqual(len(story), told[0])
        many = sum(1 for one in found if slow_is_future(family, one) and slow_is_future(one, later))
        self.assertEqual(between(family, later), many)

    def test_more_marks(self):
        for family in all_families(2, 2):
            found = futures_by_few(family, 2, 3)
            for later, told in found.items():
                self.check(family, later, told, found)

    def test_random_stories(self):
        rng = random.Random(1600)
        for family in small_families(1601, 80, most=25):
            founder = grow(family)
            story = random_story(rng, founder, rng.randint(0, 8))
            later = tell(founder)
            self.assertIs(is_future(family, later), True)
            self.assertEqual(deeds_to(family, later), len(story))
            self.assertEqual(story_to(family, later), slow_story(family, later))
            self.assertEqual(sorted(story_to(family, later)), sorted(story_to(retold(family, 3), retold(later, 4))))
            self.assertEqual(behind(family, story_to(family, later)), later)
            self.assertEqual(stories(family, later), stories(retold(family, 5), retold(later, 6)))

    def test_rows_by_hand(self):
        self.assertEqual(stories((LEAF,), (LEAF,)), 1)
        self.assertEqual(between((LEAF,), (LEAF,)), 1)
        self.assertEqual(story_to((LEAF,), (LEAF,)), ())
        # siblings are born in one order, children of unlike members in any
        self.assertEqual(stories((LEAF,), (LEAF, (0, True, (0, 0, 0)))), 1)
        self.assertEqual(between((LEAF,), (LEAF, (0, True, (0, 0, 0)))), 4)
        pair = (LEAF, (0, True, (0, 0)))
        self.assertEqual(stories(pair, (LEAF, (0, True, (0,)), (0, True, (1, 1)))), 2)
        self.assertEqual(stories(pair, (DEAD, (0, False, (0, 0)))), 6)
        self.assertEqual(between(pair, (DEAD, (0, False, (0, 0)))), 8)
        # born, with a child, both dead: the child comes ahead of its parent's death
        later = (DEAD, (0, False, (0,)), (0, True, (1,)))
        self.assertEqual(stories((LEAF,), later), 2)
        self.assertEqual(story_to((LEAF,), later), (("birth", (), 0), ("birth", (0,), 0), ("death", (0,)),
                                                    ("death", (0, 0))))
        self.assertEqual(between((LEAF,), later), 6)

    def test_200_deeds_and_201(self):
        later = (LEAF, DEAD, (0, True, (1,) * 200 + (0,) * 200))
        self.assertEqual(deeds_to(WIDE, later), 200)
        self.assertEqual(len(story_to(WIDE, later)), 200)
        self.assertEqual(stories(WIDE, later), math.factorial(200))
        self.assertEqual(between(WIDE, later), 2 ** 200)
        later = (LEAF, DEAD, (0, True, (1,) * 201 + (0,) * 199))
        self.assertEqual(deeds_to(WIDE, later), 201)
        for function in (story_to, stories, between):
            self.assertEqual(raised(function, WIDE, later), ("TooGreat", 200))
        self.assertIs(is_future(WIDE, later), True)
        later = (LEAF, DEAD, (1, True, (1,) * 201 + (0,) * 199))
        for function in (deeds_to, story_to, stories, between):
            self.assertEqual(raised(function, WIDE, later), ("NothingBack",))

    def test_great_shared_ones(self):
        family = doubled(197)
        self.assertGreater(size_of(family), 10 ** 59)
        self.assertEqual(stories(family, family), 1)
        self.assertEqual(deeds_to((LEAF,), family), size_of(family) - 1)
        self.assertEqual(deeds_to(family, tuple((0, False, line[2]) for line in family)), size_of(family))
        for function in (story_to, stories, between):
            self.assertEqual(raised(function, (LEAF,), family), ("TooGreat", 200))
        story = (("birth", (0,) * 101, 2), ("birth", (0,) * 100, 1), ("birth", (1,) * 196, 0), ("death", ()),
                 ("death", (0,) * 101), ("death", (1, 0, 1)))
        later = behind(family, story)
        self.assertEqual(deeds_to(family, later), 6)
        self.assertEqual(story_to(family, later), story)
        # all orders but those in which the child of (0,) * 101 is born behind that one's death
        self.assertEqual(stories(family, later), math.factorial(6) // 2)
        self.assertEqual(between(family, later), 2 ** 4 * 3)
        great = great_family(1602, low=10 ** 58)
        self.assertIs(is_future(great, great), True)
        self.assertEqual(between(great, retold(great, 1)), 1)

    def test_many_ways_of_one_line(self):
        # 128 members of one line die at once
        family = doubled(60)
        later = tuple([LEAF] + [(0, True, (number, number)) for number in range(52)]
                      + [(0, False, (51, 51))] + [(0, True, (number, number)) for number in range(53, 60)])
        self.assertEqual(deeds_to(family, later), 128)
        self.assertEqual(stories(family, later), math.factorial(128))
        self.assertEqual(between(family, later), 2 ** 128)
        ways = sorted(itertools.product((0, 1), repeat=7))
        self.assertEqual(story_to(family, later), tuple(("death", way) for way in ways))

    def test_long_chains(self):
        story = (("birth", (0,) * 1998, 0), ("death", (0,) * 1997))
        later = behind(chain(1999), story)
        self.assertEqual(story_to(chain(1999), later), story)
        self.assertEqual(stories(chain(1999), later), 2)
        self.assertEqual(stories((LEAF,), chain(201)), 1)
        self.assertEqual(between((LEAF,), chain(201)), 201)
        self.assertEqual(raised(stories, (LEAF,), chain(202)), ("TooGreat", 200))

    def test_wrong_ones(self):
        for function in (is_future, deeds_to, story_to, stories, between, latest_past, earliest_future):
            self.assertEqual(raised(function, None, None), ("BadFamily", None))
            self.assertEqual(raised(function, (LEAF,), (LEAF, (0, 1, ()))), ("BadFamily", 1))
            self.assertEqual(raised(function, (LEAF,), with_members(10 ** 60 + 1)), ("BadFamily", None))


class Common(unittest.TestCase):

    def test_all_small_families(self):
        families = all_families(3, 1) + [family for family in all_families(2, 2) if any(line[0] for line in family)]
        families += [(LEAF, DEAD, (1, True, (0, 1))), (LEAF, (1, True, ()), (0, True, (0, 1))),
                     (LEAF, (1, True, ()), (0, False, (0, 1))), (LEAF, (1, False, ()), (0, False, (1,)))]
        later = {family: {one for one in families if slow_is_future(family, one)} for family in families}
        for one, two in itertools.product(families, repeat=2):
            pasts = [family for family in families if one in later[family] and two in later[family]]
            told = self.told(latest_past, one, two)
            self.assertIs(told is None, pasts == [])
            if told is not None:
                self.assertIn(told, pasts)
                self.assertTrue(all(told in later[family] for family in pasts))
            futures = later[one] & later[two]
            told = self.told(earliest_future, one, two)
            if told is None:
                self.assertEqual(futures, set())
            else:
                self.assertTrue(slow_is_future(one, told) and slow_is_future(two, told))
                self.assertTrue(all(slow_is_future(told, family) for family in futures))
                self.assertEqual(deeds_to(latest_past(one, two), one), deeds_to(two, told))

    def told(self, function, one, two):
        error = raised(function, one, two)
        if error is not None:
            self.assertEqual(error, ("NothingBack",))
            return None
        self.assertEqual(function(one, two), function(retold(one, 7), retold(two, 8)))
        self.assertEqual(short(function(one, two)), function(one, two))
        return function(one, two)

    def test_two_futures_of_one(self):
        rng = random.Random(1603)
        joined = 0
        for family in small_families(1604, 150, most=20):
            sides = []
            for _ in range(2):
                founder = grow(family)
                random_story(rng, founder, 4)
                sides.append(tell(founder))
            past = latest_past(*sides)
            self.assertTrue(slow_is_future(family, past))
            self.assertTrue(all(slow_is_future(past, side) for side in sides))
            if raised(earliest_future, *sides) is None:
                joined += 1
                future = earliest_future(*sides)
                self.assertTrue(all(slow_is_future(side, future) for side in sides))
                self.assertEqual(deeds_to(past, sides[0]), deeds_to(sides[1], future))
                self.assertEqual(deeds_to(past, sides[1]), deeds_to(sides[0], future))
        self.assertGreater(joined, 40)

    def test_by_hand(self):
        self.assertEqual(latest_past((LEAF,), (DEAD,)), (LEAF,))
        self.assertEqual(latest_past((DEAD,), (DEAD,)), (DEAD,))
        self.assertEqual(earliest_future((LEAF,), (DEAD,)), (DEAD,))
        two, three = (LEAF, (0, False, (0, 0))), (LEAF, (0, False, (0, 0, 0)))
        self.assertEqual(latest_past(two, three), (LEAF, (0, True, (0, 0))))
        self.assertEqual(raised(earliest_future, two, three), ("NothingBack",))
        self.assertEqual(raised(latest_past, (LEAF,), ((1, True, ()),)), ("NothingBack",))
        self.assertEqual(raised(earliest_future, (LEAF,), ((1, True, ()),)), ("NothingBack",))
        # marks differ further down: the past ends there, and there is no future
        one, other = (LEAF, (0, True, (0, 0))), (LEAF, (1, True, ()), (0, True, (0, 1)))
        self.assertEqual(latest_past(one, other), (LEAF, (0, True, (0,))))
        self.assertEqual(raised(earliest_future, one, other), ("NothingBack",))

    def test_great_ones(self):
        family = doubled(197)
        one = behind(family, (("death", (0, 1)), ("birth", (1, 1), 2)))
        other = behind(family, (("death", (0, 1)), ("death", (0, 0)), ("birth", (1,) * 150, 1)))
        self.assertEqual(latest_past(one, other), behind(family, (("death", (0, 1)),)))
        self.assertEqual(earliest_future(one, other), behind(other, (("birth", (1, 1), 2),)))

    def test_more_lines_than_may_be_told(self):
        # each of both has a further child at every second member of one chain
        lines = [LEAF]
        for number in range(1998):
            lines.append((0, True, (number, 0) if number % 2 else (number,)))
        one = tuple(lines)
        lines = [LEAF]
        for number in range(1998):
            lines.append((0, True, (number, 0) if number % 2 == 0 else (number,)))
        self.assertEqual(len(earliest_future(one, tuple(lines))), 1999)
        self.assertEqual(len(latest_past(one, tuple(lines))), 1999)
        # 64 lines beside 64 others, each with each
        first, second = self.coded(False, True), self.coded(False, False)
        self.assertEqual(raised(earliest_future, first, second), ("TooGreat", 2000))
        self.assertIsNone(raised(latest_past, first, second))
        first, second = self.coded(True, True), self.coded(True, False)
        self.assertEqual(raised(latest_past, first, second), ("TooGreat", 2000))
        self.assertIsNone(raised(earliest_future, first, second))
        self.assertIs(is_future(first, second), False)

    def coded(self, are_dead, is_first):
        """4,096 grandchildren, each with six children whose lives tell a number, and six others."""
        lines = [DEAD, LEAF]
        rest = (0 if are_dead else 1,) * 6
        for number in range(64):
            told = tuple(number >> bit & 1 for bit in range(6))
            lines.append((0, True, told + rest if is_first else rest + told))
        for part in range(8):
            places = range(part * 512, part * 512 + 512)
            lines.append((0, True, tuple(2 + (place % 64 if is_first else place // 64) for place in places)))
        lines.append((0, True, tuple(range(66, 74))))
        return tuple(lines)


if __name__ == "__main__":
    unittest.main()
