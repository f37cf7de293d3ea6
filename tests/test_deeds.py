"""heirlines.deeds: points [16], [27] and [28]"""

import itertools
import random
import unittest

from heirlines.deeds import after, are_apart, behind, deaths_of, need_deed, reigns
from heirlines.heirs import heir
from heirlines.readings import reading
from heirlines.shorts import short
from tests.helper import (ELDEST, NOBODY, Member, at, chain, customs, doubled, great_family, grow, heir_in, raised,
                          random_story,
                          retold, size_of, small_families, tell, ways_of, with_members)

LEAF = (0, True, ())
WIDE = (LEAF, (0, True, (0,) * 600))


class NeedDeed(unittest.TestCase):

    FAMILY = ((0, True, ()), (0, False, (0,)), (0, True, (1, 0)))

    def test_deeds_are_told_back(self):
        for deed in (("birth", (), 0), ("birth", (0, 0), 2), ("death", (1,)), ("death", ())):
            self.assertIs(need_deed(self.FAMILY, deed), deed)
        self.assertEqual(need_deed(deed=("death", ()), marks=1, family=self.FAMILY), ("death", ()))

    def test_form(self):
        for deed in (None, 0, "", "ab", [], ["death", ()], (), ("death",), ("death", (), 0), ("birth", ()),
                     ("birth", (), 0, 0), ("Birth", (), 0), ("Death", ()), ((), "death"), (None, ()), ("birth", (1,)),
                     ("death", (5,), 9), (0, (), 0)):
            self.assertEqual(raised(need_deed, self.FAMILY, deed), ("BadDeed", "form"), deed)

    def test_way(self):
        for way in (None, 0, "", [], [0], (2,), (0, 1), (0, 0, 0), (-1,), (True,), (False,), ("0",), (600,),
                    (10 ** 900,)):
            self.assertEqual(raised(need_deed, self.FAMILY, ("death", way)), ("BadDeed", "way"))
            self.assertEqual(raised(need_deed, self.FAMILY, ("birth", way, 9)), ("BadDeed", "way"))

    def test_life_comes_ahead_of_mark(self):
        for mark in (0, 9, None):
            self.assertEqual(raised(need_deed, self.FAMILY, ("birth", (0,), mark)), ("BadDeed", "life"))
        self.assertEqual(raised(need_deed, self.FAMILY, ("death", (0,))), ("BadDeed", "life"))

    def test_marks(self):
        for marks in (1, 2, 3):
            for mark in (0, 1, 2, 3, -1, True, False, None, "0", (0,), 10 ** 900):
                right = mark in (0, 1, 2) and not isinstance(mark, bool) and mark < marks
                told = raised(need_deed, self.FAMILY, ("birth", (), mark), marks)
                self.assertEqual(told, None if right else ("BadDeed", "mark"))
            self.assertIsNone(raised(need_deed, self.FAMILY, ("death", ()), marks))

    def test_marks_come_ahead_of_the_others(self):
        for marks in (0, 4, True, None, "1", (1,)):
            self.assertEqual(raised(need_deed, None, None, marks), ("BadNumber", marks))
        self.assertEqual(raised(need_deed, (LEAF, (1, True, ())), None, 1), ("BadFamily", 1))
        self.assertEqual(raised(need_deed, None, None, 2), ("BadFamily", None))
        self.assertEqual(raised(need_deed, (LEAF, (1, True, ())), ("birth", (), 1), 2), None)

    def test_all_members_of_small_families(self):
        for family in small_families(100, 40):
            founder = grow(family)
            for way in ways_of(founder):
                word = None if at(founder, way).is_alive else ("BadDeed", "life")
                self.assertEqual(raised(need_deed, family, ("death", way)), word)
                self.assertEqual(raised(need_deed, family, ("birth", way, 1)), word)


class After(unittest.TestCase):

    def test_small_ones(self):
        for family in small_families(101, 60):
            for way in ways_of(grow(family)):
                if at(grow(family), way).is_alive:
                    founder = grow(family)
                    at(founder, way).is_alive = False
                    self.assertEqual(after(family, ("death", way)), tell(founder))
                    founder = grow(family)
                    at(founder, way).children.append(Member(2, True, []))
                    self.assertEqual(after(family, ("birth", way, 2)), tell(founder))

    def test_wrong_ones(self):
        self.assertEqual(raised(after, None, None), ("BadFamily", None))
        self.assertEqual(raised(after, chain(2), None), ("BadDeed", "form"))
        self.assertEqual(raised(after, chain(2), ("death", (1,))), ("BadDeed", "way"))
        self.assertEqual(raised(after, ((0, False, ()),), ("death", ())), ("BadDeed", "life"))
        self.assertEqual(raised(after, deed=("birth", (), 3), family=chain(2)), ("BadDeed", "mark"))

    def test_bounds(self):
        narrow = (LEAF, (0, True, (0,) * 599))
        self.assertEqual(after(narrow, ("birth", (), 0)), WIDE)
        self.assertEqual(raised(after, WIDE, ("birth", (), 0)), ("TooGreat", 600))
        self.assertEqual(len(after(WIDE, ("death", (599,)))), 3)
        most = with_members(10 ** 60)
        self.assertEqual(raised(after, most, ("birth", (), 0)), ("TooGreat", 10 ** 60))
        self.assertEqual(size_of(after(with_members(10 ** 60 - 1), ("birth", (), 0))), 10 ** 60)
        self.assertEqual(raised(after, chain(2000), ("birth", (0,) * 1999, 0)), ("TooGreat", 2000))
        self.assertEqual(raised(after, chain(2000), ("birth", (), 1)), ("TooGreat", 2000))
        self.assertEqual(len(after(chain(2000), ("birth", (), 0))), 2000)
        self.assertEqual(len(after(chain(1999), ("birth", (0,) * 1998, 1))), 2000)


class Behind(unittest.TestCase):

    def test_stories(self):
        rng = random.Random(7)
        for family in small_families(102, 60):
            founder = grow(family)
            story = random_story(rng, founder, 12)
            self.assertEqual(behind(family, story), tell(founder))
            self.assertEqual(behind(family, ()), short(family))

    def test_deeds_on_newborn_members(self):
        story = (("birth", (), 1), ("birth", (0,), 2), ("death", (0,)), ("birth", (0, 0), 0), ("death", (0, 0)))
        self.assertEqual(behind((LEAF,), story), ((0, True, ()), (2, False, (0,)), (1, False, (1,)), (0, True, (2,))))

    def test_200_deeds(self):
        births = tuple(("birth", (), 0) for _ in range(201))
        self.assertEqual(behind((LEAF,), births[:200]), (LEAF, (0, True, (0,) * 200)))
        self.assertEqual(raised(behind, (LEAF,), births), ("BadStory", None))
        self.assertEqual(raised(behind, (LEAF,), (None,) * 201), ("BadStory", None))
        self.assertEqual(raised(behind, (LEAF,), (None,) * 200), ("BadStory", 0))

    def test_what_is_no_tuple(self):
        for story in (None, 0, "", [], [("death", ())], {}, True):
            self.assertEqual(raised(behind, (LEAF,), story), ("BadStory", None))
            self.assertEqual(raised(behind, (1,), story), ("BadFamily", 0))
            self.assertEqual(raised(reigns, ELDEST, (LEAF,), story), ("BadStory", None))

    def test_the_first_deed_that_is_not_possible(self):
        deed = ("birth", (), 0)
        for wrong in (None, (), ("death",), ("death", (9,)), ("birth", (), 3), ("birth", (0, 0), 0), ("death", [0])):
            for place in range(4):
                story = (deed,) * place + (wrong,) + (deed,) * 2 + (None,)
                self.assertEqual(raised(behind, (LEAF,), story), ("BadStory", place))
        self.assertEqual(raised(behind, (LEAF,), (("death", ()), ("death", ()))), ("BadStory", 1))
        self.assertEqual(raised(behind, (LEAF,), (("death", ()), ("birth", (), 0))), ("BadStory", 1))
        self.assertEqual(raised(behind, (LEAF,), (("death", (0,)), ("birth", (), 0))), ("BadStory", 0))
        self.assertIsNone(raised(behind, (LEAF,), (("birth", (), 0), ("death", (0,)))))

    def test_a_number_above_599_in_a_way(self):
        born = ("birth", (), 0)
        self.assertEqual(raised(behind, WIDE, (born, ("death", (600,)))), ("BadStory", 1))
        self.assertEqual(raised(behind, WIDE, (born, ("birth", (600,), 0))), ("BadStory", 1))
        self.assertEqual(raised(behind, WIDE, (born, ("death", (599,)))), ("TooGreat", 600))
        self.assertEqual(raised(behind, WIDE, (born, ("birth", (599,), 0))), ("TooGreat", 600))

    def test_bounds_behind_the_errors(self):
        born = ("birth", (), 0)
        self.assertEqual(raised(behind, WIDE, (born,)), ("TooGreat", 600))
        self.assertEqual(raised(behind, WIDE, (born, born, None)), ("BadStory", 2))
        self.assertEqual(raised(behind, with_members(10 ** 60), (born,)), ("TooGreat", 10 ** 60))
        self.assertEqual(raised(behind, chain(2000), (("birth", (), 1),)), ("TooGreat", 2000))
        self.assertEqual(raised(reigns, ELDEST, WIDE, (born,)), ("TooGreat", 600))
        self.assertEqual(raised(reigns, ELDEST, with_members(10 ** 60), (born,)), ("TooGreat", 10 ** 60))
        self.assertEqual(raised(reigns, ELDEST, chain(2000), (("death", (0,)), ("birth", (0,) * 1999, 0))),
                         ("TooGreat", 2000))

    def test_what_comes_back_below_the_bounds(self):
        # in between there are more lines than behind both deeds
        family = (LEAF,) + tuple((0, True, (number,)) for number in range(1998)) + ((0, True, (1998, 1998)),)
        self.assertEqual(len(short(family)), 2000)
        deeds = (("death", (0,)), ("death", (1,)))
        self.assertEqual(raised(behind, family, deeds[:1]), ("TooGreat", 2000))
        self.assertEqual(len(behind(family, deeds)), 2000)
        self.assertEqual(raised(after, family, deeds[0]), ("TooGreat", 2000))
        self.assertEqual(len(reigns(ELDEST, family, deeds)), 1)

    def test_facts(self):
        rng = random.Random(8)
        for custom in customs(103, 15, marks=3):
            for family in small_families(104, 6, most=20):
                founder = grow(family)
                story = random_story(rng, founder, 2)
                if len(story) < 2 or any(way[1] not in ways_of(grow(family)) for way in story):
                    continue
                one, two = story
                if are_apart(one, two) or one[0] == two[0] == "death":
                    self.assertEqual(behind(family, (one, two)), behind(family, (two, one)))
        family = great_family(100)
        changed = after(family, ("death", ())) if family[-1][1] else family
        custom = customs(105, 1, marks=3)[0]
        self.assertEqual(reading(custom, changed)[:-1], reading(custom, family)[:-1])


class AreApart(unittest.TestCase):

    def test_all_short_ways(self):
        ways = [way for many in range(4) for way in itertools.product(range(2), repeat=many)]
        for way in ways:
            for other in ways:
                apart = way[:len(other)] != other and other[:len(way)] != way
                for deed in (("death", way), ("birth", way, 2)):
                    self.assertIs(are_apart(deed, ("death", other)), apart)
                    self.assertIs(are_apart(other_deed=deed, deed=("birth", other, 0)), apart)

    def test_wrong_ones(self):
        good = ("death", (0,))
        forms = (None, 0, (), [], ("death",), ("birth", (0,)), ("death", (0,), 0), ["death", ()], ("died", ()))
        ways = (None, 0, [], "0", (True,), (-1,), (600,), ("0",), (0,) * 2000, (10 ** 900,))
        marks = (-1, 3, True, False, None, "0", ())
        wrong = [(deed, "form") for deed in forms]
        wrong += [(("death", way), "way") for way in ways] + [(("birth", way, 9), "way") for way in ways]
        wrong += [(("birth", (599,) * 1999, mark), "mark") for mark in marks]
        for deed, word in wrong:
            self.assertEqual(raised(are_apart, deed, good), ("BadDeed", word))
            self.assertEqual(raised(are_apart, good, deed), ("BadDeed", word))
            for other, other_word in wrong[::5]:
                self.assertEqual(raised(are_apart, deed, other), ("BadDeed", word))
        self.assertIs(are_apart(("death", (599,) * 1999), ("death", (599,) * 1998 + (598,))), True)


class Reigns(unittest.TestCase):

    def test_against_all_heirs(self):
        rng = random.Random(9)
        for custom in [ELDEST, NOBODY] + customs(106, 25, marks=3):
            for family in small_families(107, 6, most=20, marks=custom[0]):
                founder = grow(family)
                story = random_story(rng, founder, 15, custom[0])
                heirs = [heir(custom, behind(family, story[:many])) for many in range(len(story) + 1)]
                expected = tuple((key, len(list(group))) for key, group in itertools.groupby(heirs))
                told = reigns(custom, family, story)
                self.assertEqual(told, expected)
                self.assertEqual(sum(many for _, many in told), len(story) + 1)
                self.assertEqual(told[-1][0], heir_in(custom, founder))
                self.assertEqual(reigns(custom, retold(family, 3) if custom[0] == 3 else family, story), told)

    def test_by_hand(self):
        family = (LEAF, (0, True, (0, 0)))
        story = (("death", (0,)), ("death", ()), ("birth", (1,), 0), ("death", (1,)), ("death", (1, 0)))
        self.assertEqual(reigns(ELDEST, family, story), (((), 2), ((1,), 2), ((1, 0), 1), (None, 1)))
        self.assertEqual(reigns(ELDEST, family, story + ()), (((), 2), ((1,), 2), ((1, 0), 1), (None, 1)))
        self.assertEqual(reigns(NOBODY, family, story), ((None, 6),))
        self.assertEqual(reigns(ELDEST, family, ()), (((), 1),))
        dead = ((0, False, ()), (0, True, ()), (0, False, (0, 1)))
        self.assertEqual(reigns(ELDEST, dead, (("death", (1,)),)), (((1,), 1), (None, 1)))

    def test_marks_below_the_customs(self):
        self.assertEqual(raised(reigns, ELDEST, (LEAF,), (("birth", (), 0), ("birth", (), 1))), ("BadStory", 1))
        self.assertEqual(raised(reigns, ELDEST, ((1, True, ()),), None), ("BadFamily", 0))
        self.assertEqual(raised(reigns, None, None, None), ("BadCustom", "form"))
        self.assertEqual(raised(reigns, story=(None,), family=(LEAF,), custom=ELDEST), ("BadStory", 0))

    def test_great_ones(self):
        family = doubled(150)
        story = tuple(("death", (0,) * level) for level in range(100))
        self.assertEqual(reigns(ELDEST, family, story), tuple(((0,) * level, 1) for level in range(101)))


class DeathsOf(unittest.TestCase):

    def test_small_ones(self):
        rng = random.Random(10)
        for family in small_families(108, 60):
            ways = ways_of(grow(family))
            for many in (0, 1, 3, len(ways)):
                dying = tuple(sorted(rng.sample(ways, min(many, len(ways)))))
                founder = grow(family)
                for way in dying:
                    at(founder, way).is_alive = False
                self.assertEqual(deaths_of(family, dying), tell(founder))

    def test_wrong_ways(self):
        family = (LEAF, (0, False, (0, 0)))
        for ways in (None, 0, "", [], [()], ((0,), ()), ((0,), (0,)), ((), (1,), (0,)), (None,), ([],), ("0",), (0,),
                     ((0,), (True,)), ((True,),), (("0",),), ((), [0]), ((5,), (4,)), ((5,), None)):
            self.assertEqual(raised(deaths_of, family, ways), ("BadWay", ways))
            self.assertEqual(raised(deaths_of, None, ways), ("BadFamily", None))
        for way in ((2,), (0, 0), (600,), (10 ** 900,)):
            self.assertEqual(raised(deaths_of, family, ((), (0,), way)), ("BadWay", way))
        self.assertEqual(raised(deaths_of, family, ((-1,), (5,))), ("BadWay", (-1,)))
        self.assertEqual(raised(deaths_of, ways=((0,), (7,), (8,)), family=family), ("BadWay", (7,)))

    def test_300_ways(self):
        ways = tuple((place,) for place in range(301))
        self.assertEqual(raised(deaths_of, WIDE, ways), ("BadWay", ways))
        dead = deaths_of(WIDE, ways[:300])
        self.assertEqual(dead, ((0, False, ()), (0, True, ()), (0, True, (0,) * 300 + (1,) * 300)))

    def test_dead_ones_stay_so(self):
        family = ((0, False, ()), (0, True, (0, 0)))
        self.assertEqual(deaths_of(family, ((0,),)), family)
        self.assertEqual(deaths_of(family, ()), family)
        self.assertEqual(deaths_of(family, ((), (0,), (1,))), ((0, False, ()), (0, False, (0, 0))))

    def test_lines(self):
        family = (LEAF,) + tuple((0, True, (number,)) for number in range(1998)) + ((0, True, (1998, 1998)),)
        self.assertEqual(raised(deaths_of, family, ((0,),)), ("TooGreat", 2000))
        self.assertEqual(len(deaths_of(family, ((0,), (1,)))), 2000)
        self.assertEqual(raised(deaths_of, family, ((0,), (9,))), ("BadWay", (9,)))


if __name__ == "__main__":
    unittest.main()
