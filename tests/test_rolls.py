"""heirlines.rolls and heirlines.fillings: points [66] and [67]"""

import collections
import itertools
import random
import unittest

from heirlines.fillings import differing_filling, filling_with
from heirlines.heirs import heir
from heirlines.rolls import (filling_holds, is_filling, is_member, many_fillings, many_with, may_be_heir, may_be_none,
                             need_roll, possible_heirs, sure_heir, surely_agree, surely_is_heir)
from heirlines.shorts import short
from tests.helper import (ELDEST, NOBODY, YOUNGEST, Member, all_families, at, big_custom, chain, customs, great_family, grow,
                          heir_in, narrow, raised, random_custom, retold, tell, ways_of)

LIVES = {"living": (True,), "dead": (False,), "open": (False, True)}
LEAF = ((0,), "living", (), True)


def random_roll(rng, entries, marks, most_children=3):
    told = []
    for number in range(rng.randint(1, entries)):
        children = tuple(rng.randrange(number) for _ in range(rng.randint(0, most_children))) if number else ()
        own = tuple(sorted(rng.sample(range(marks), rng.randint(1, min(2, marks)))))
        told.append((own, rng.choice(("living", "dead", "open")), children, rng.random() < 0.5))
    return tuple(told)


def small_rolls(seed, many, marks, most=6, most_ways=2000):
    rng = random.Random(seed)
    found = []
    while len(found) < many:
        roll = random_roll(rng, 5, marks)
        if size(roll) <= most and many_fillings(roll) <= most_ways:
            found.append(roll)
    return found


def size(roll):
    sizes = []
    for _, _, children, _ in roll:
        sizes.append(1 + sum(sizes[child] for child in children))
    return sizes[-1]


def fillings(roll, number=None):
    """All ways of filling: (mark, life, the children with their places in the roll)"""
    marks, life, children, is_ordered = roll[len(roll) - 1 if number is None else number]
    below = [fillings(roll, child) for child in children]
    places = list(range(len(children)))
    orders = [places] if is_ordered else list(itertools.permutations(places))
    return [(mark, is_alive, tuple((place, chosen[place]) for place in order))
            for mark in marks for is_alive in LIVES[life] for chosen in itertools.product(*below) for order in orders]


def as_member(filling):
    return Member(filling[0], filling[1], [as_member(child) for _, child in filling[2]])


def way_in_roll(filling, way):
    if way is None:
        return None
    told = ()
    for number in way:
        place, filling = filling[2][number]
        told += (place,)
    return told


def all_members(roll):
    return ways_of(grow(tuple((0, True, entry[2]) for entry in roll)))


class Told(unittest.TestCase):

    def test_need_roll(self):
        for roll in ((LEAF,), (((0, 1, 2), "open", (), False), ((2,), "dead", (0,) * 5, False)),
                     (LEAF, ((1,), "open", (0,) * 600, True)), tuple(((0,), "dead", (number - 1,) if number else (), True)
                                                                    for number in range(2000))):
            self.assertIs(need_roll(roll), roll)
        wrong = ((0,), "alive", (), True)
        self.assertEqual(raised(need_roll, (LEAF, wrong, wrong)), ("BadRoll", 1))
        self.assertEqual(raised(need_roll, (LEAF, ((0,), "open", (0,) * 6, False), wrong)), ("BadRoll", 1))
        self.assertEqual(raised(need_roll, (LEAF,) * 2001), ("BadRoll", None))
        many = tuple(((0,), "open", line[2], True) for line in narrow(10 ** 60))
        self.assertIs(need_roll(many), many)
        more = tuple(((0,), "open", line[2], True) for line in narrow(10 ** 60 + 1))
        self.assertEqual(raised(need_roll, more), ("BadRoll", None))
        self.assertEqual(raised(need_roll, more[:-1] + (more[-1][:3] + (1,),)), ("BadRoll", len(more) - 1))
        # beside a custom marks come behind the number of members
        marked = ((((1,),) + more[0][1:]),) + more[1:]
        self.assertEqual(raised(may_be_none, ELDEST, marked), ("BadRoll", None))
        self.assertEqual(raised(may_be_none, ELDEST, ((((0, 1), "open", (), True)), LEAF)), ("BadRoll", 0))

    def test_is_member(self):
        roll = (LEAF, ((0,), "open", (0, 0), False), ((0,), "dead", (1, 0), True))
        members = all_members(roll)
        self.assertEqual([way for way in members if not is_member(roll, way)], [])
        for value in (None, 0, "", [], [0], (2,), (0, 0, 0), (True,), (-1,), ((0,),), (None,)):
            self.assertIs(is_member(roll, value), False)

    def test_is_filling(self):
        for roll in small_rolls(3800, 40, 2):
            told = {tell(as_member(filling)) for filling in fillings(roll)}
            self.assertEqual(many_fillings(roll), len(fillings(roll)))
            for family in sorted(told)[:12]:
                self.assertIs(is_filling(roll, family), True)
                self.assertIs(is_filling(roll, retold(family, 1)), True)
            for family in all_families(3, 2)[::5] + all_families(4, 2)[::97]:
                self.assertIs(is_filling(roll, family), family in told)

    def test_families_of_other_marks(self):
        self.assertEqual(raised(is_filling, (LEAF,), ((3, True, ()),)), ("BadFamily", 0))
        self.assertFalse(is_filling((LEAF,), ((2, True, ()),)))
        self.assertFalse(is_filling((LEAF,), ((0, False, ()),)))

    def test_five_children_in_any_order(self):
        roll = (((0,), "living", (), True), ((1,), "living", (), True), ((0,), "dead", (0, 0, 1, 1, 1), False))
        self.assertEqual(many_fillings(roll), 120)
        rows = set(itertools.permutations((0, 0, 1, 1, 1)))
        for row in rows:
            told = ((0, True, ()), (1, True, ()), (0, False, row))
            self.assertTrue(is_filling(roll, told))
            self.assertFalse(is_filling(roll[:2] + (roll[2][:3] + (True,),), told) and row != (0, 0, 1, 1, 1))
        self.assertFalse(is_filling(roll, ((0, True, ()), (1, True, ()), (0, False, (0, 0, 0, 1, 1)))))
        self.assertEqual(many_fillings((((0, 1, 2), "open", (), True), ((0,), "open", (0, 0, 0), False))), 6 ** 3 * 12)

    def test_families_of_any_number_of_members(self):
        family = narrow(10 ** 60 + 1)
        roll = tuple(((0, 2), "open", line[2], True) for line in narrow(10 ** 60))
        self.assertFalse(is_filling(roll, family))
        self.assertTrue(is_filling(roll, narrow(10 ** 60)))


class Heirs(unittest.TestCase):

    def test_all_ways_of_filling(self):
        rng = random.Random(3801)
        for marks in (1, 2):
            for roll in small_rolls(3802 + marks, 30, marks):
                ways = fillings(roll)
                founders = [as_member(way) for way in ways]
                for custom in customs(rng.random(), 3, marks, 5):
                    heirs = [heir_in(custom, founder) for founder in founders]
                    own = [way_in_roll(way, one) for way, one in zip(ways, heirs)]
                    self.check(custom, roll, collections.Counter(own), len(ways))
                    self.check_fillings(custom, roll, ways, own, heirs)
                    other = random_custom(rng, marks, 5)
                    self.check_two(custom, other, roll, ways, founders)

    def check(self, custom, roll, many, every):
        self.assertIs(may_be_none(custom, roll), many[None] > 0)
        self.assertEqual(many_with(custom, roll, None), many[None])
        possible = [way for way, number in many.items() if way is not None and number]
        self.assertEqual(possible_heirs(custom, roll), tuple(sorted(possible)))
        sure = [way for way in possible if many[way] == every]
        self.assertEqual(sure_heir(custom, roll), sure[0] if sure else None)
        for way in all_members(roll):
            self.assertIs(may_be_heir(custom, roll, way), many[way] > 0)
            self.assertIs(surely_is_heir(custom, roll, way), many[way] == every)
            self.assertEqual(many_with(custom, roll, way), many[way])

    def check_fillings(self, custom, roll, ways, own, heirs):
        right = {(own_way, tell(as_member(way)), far_way) for way, own_way, far_way in zip(ways, own, heirs)}
        told = sorted({tell(as_member(way)) for way in ways})
        for way in all_members(roll):
            paper = filling_with(custom, roll, way)
            self.assertIs(paper is None, way not in own)
            if paper is not None:
                self.assertTrue(filling_holds(custom, roll, way, paper))
                self.assertIn((way,) + paper, right)
                self.assertLessEqual(len(paper[0]), 10 * len(roll))
            for family in told[::1 + len(told) // 4]:
                for far_way in ways_of(grow(family))[:4]:
                    self.assertIs(filling_holds(custom, roll, way, (family, far_way)),
                                  (way, family, far_way) in right)
                # one member is another one, so it may be no filling
                for place in ways_of(grow(family))[-3:]:
                    founder = grow(family)
                    at(founder, place).is_alive = not at(founder, place).is_alive
                    now = heir_in(custom, founder)
                    if now is not None:
                        self.assertIs(filling_holds(custom, roll, way, (tell(founder), now)),
                                      (way, tell(founder), now) in right)

    def check_two(self, custom, other, roll, ways, founders):
        unlike = [founder for founder in founders if heir_in(custom, founder) != heir_in(other, founder)]
        self.assertIs(surely_agree(custom, other, roll), not unlike)
        told = differing_filling(custom, other, roll)
        self.assertIs(told is None, not unlike)
        if told is not None:
            self.assertEqual(short(told), told)
            self.assertTrue(is_filling(roll, told))
            self.assertNotEqual(heir(custom, told), heir(other, told))

    def test_an_entry_that_is_read_twice_is_filled_at_each_place(self):
        roll = (((0,), "open", (), True), ((0,), "dead", (0, 0), True))
        self.assertEqual(possible_heirs(ELDEST, roll), ((0,), (1,)))
        self.assertEqual([many_with(ELDEST, roll, way) for way in (None, (0,), (1,), ())], [1, 2, 1, 0])
        self.assertIsNone(sure_heir(ELDEST, roll))
        self.assertEqual(filling_with(ELDEST, roll, (1,)), (((0, False, ()), (0, True, ()), (0, False, (0, 1))), (1,)))
        self.assertFalse(surely_agree(ELDEST, YOUNGEST, roll))
        self.assertTrue(surely_agree(ELDEST, YOUNGEST, roll[:1]))

    def test_another_family_that_is_a_filling(self):
        roll = (((0,), "open", (), True), ((0,), "dead", (0, 0), False))
        family = ((0, False, ()), (0, True, ()), (0, False, (0, 1)))
        self.assertTrue(filling_holds(ELDEST, roll, (0,), (family, (1,))))
        self.assertTrue(filling_holds(ELDEST, roll, (1,), (family, (1,))))
        self.assertFalse(filling_holds(ELDEST, roll, (1,), (family, (0,))))
        self.assertFalse(filling_holds(ELDEST, roll, (), (family, (1,))))
        self.assertFalse(filling_holds(ELDEST, roll, (1,), (((0, True, ()),), ())))
        # the heir's own line has to be filled rightly, too
        for own in ((0, True, (0,)), (0, True, (0, 0))):
            other = ((0, True, ()), own, (0, False, (1, 0)))
            self.assertEqual(heir(ELDEST, other), (0,))
            self.assertFalse(filling_holds(ELDEST, roll, (0,), (other, (0,))))
        ordered = roll[:1] + (roll[1][:3] + (True,),)
        self.assertFalse(filling_holds(ELDEST, ordered, (0,), (family, (1,))))
        self.assertTrue(filling_holds(ELDEST, ordered, (1,), (family, (1,))))

    def test_great_rolls(self):
        rng = random.Random(3803)
        for seed in (1, 4):
            family = great_family(seed, 3, low=10 ** 55, spread=4, most_children=3)
            roll = tuple((tuple(sorted({mark, rng.randrange(3)})), rng.choice(("living", "dead", "open")), children,
                          rng.random() < 0.5) for mark, _, children in family)
            custom, other = customs(seed, 2, 3, 5)
            way = (0,) * 3
            paper = filling_with(custom, roll, way)
            self.assertIs(may_be_heir(custom, roll, way), paper is not None)
            if paper is not None:
                self.assertTrue(filling_holds(custom, roll, way, paper))
            own = sure_heir(custom, roll)
            if own is not None:
                self.assertTrue(surely_is_heir(custom, roll, own))
            if surely_agree(custom, other, roll):
                self.assertIsNone(differing_filling(custom, other, roll))
            else:
                told = differing_filling(custom, other, roll)
                self.assertTrue(is_filling(roll, told))
                self.assertNotEqual(heir(custom, told), heir(other, told))

    def test_a_sure_heir_of_a_great_roll(self):
        roll = tuple(((0,), "living", line[2], True) for line in narrow(10 ** 60))
        self.assertEqual(sure_heir(ELDEST, roll), ())
        deep = (((0,), "living", (), True),) + tuple(((0,), "dead", (number, number), False) for number in range(190))
        self.assertIsNone(sure_heir(ELDEST, deep))
        ordered = tuple(entry[:3] + (True,) for entry in deep)
        self.assertEqual(sure_heir(ELDEST, ordered), (0,) * 190)
        self.assertTrue(surely_is_heir(ELDEST, ordered, (0,) * 190))
        self.assertFalse(may_be_heir(ELDEST, ordered, (0,) * 189 + (1,)))
        self.assertTrue(may_be_heir(ELDEST, deep, (0,) * 189 + (1,)))

    def test_too_great(self):
        small = tuple(((0,), "dead", line[2], True) for line in chain(300))
        great = tuple(((0,), "dead", line[2], True) for line in chain(301))
        for function, arguments in ((possible_heirs, ()), (many_with, (None,))):
            self.assertIsNone(raised(function, ELDEST, small, *arguments))
            self.assertEqual(raised(function, ELDEST, great, *arguments), ("TooGreat", 300))
        self.assertEqual(many_fillings(small), 1)
        self.assertEqual(raised(many_fillings, great), ("TooGreat", 300))
        self.assertEqual(raised(many_with, ELDEST, great, (1,)), ("BadWay", (1,)))
        self.assertTrue(may_be_none(NOBODY, great))

    def test_fillings_that_would_be_too_great(self):
        # all entries are needed, each with a line at least
        roll = tuple(((0,), "dead", (number - 1,) if number else (), True) for number in range(1999))
        roll = (((0,), "living", (), True),) + roll[1:] + (((0,), "dead", (1998,), True),)
        self.assertEqual(len(filling_with(ELDEST, roll, (0,) * 1999)[0]), 2000)
        # a chain of which each member is read at two places, one of them dead or living, needs more
        open_roll = (((0,), "open", (), True),) + tuple(
            ((0,), "dead", (number, number), True) for number in range(180))
        paper = filling_with(ELDEST, open_roll, (1,) * 180)
        self.assertTrue(filling_holds(ELDEST, open_roll, (1,) * 180, paper))
        # the elder ones have to be dead, so both lines of the leaf are needed
        wide_roll = open_roll[:1] + tuple(((0,), "dead", (0, number) if number else (0,), True) for number in range(1999))
        self.assertEqual(raised(filling_with, ELDEST, wide_roll, (1,) * 1998 + (0,)), ("TooGreat", 2000))

    def test_marks_and_members(self):
        rng = random.Random(3804)
        roll = (((0, 1, 2), "open", (), True), ((1, 2), "open", (0, 0), False))
        self.assertEqual(raised(surely_agree, ELDEST, big_custom(rng), roll), ("BadMarks", 3))
        self.assertEqual(raised(differing_filling, ELDEST, big_custom(rng), None), ("BadMarks", 3))


if __name__ == "__main__":
    unittest.main()
