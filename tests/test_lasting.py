"""heirlines.lasting: point [48]"""

import random
import unittest

from heirlines.deeds import behind, need_deed
from heirlines.lasting import harm, is_kept, is_lasting
from heirlines.outcomes import outcomes
from heirlines.ruled import custom_of
from heirlines.shorts import short
from heirlines.steady import is_steady
from tests.helper import (ELDEST, NOBODY, YOUNGEST, Member, all_families, at, big_customs, customs, doubled, grow,
                          line_of_claim, raised, random_story, rules, size_of, small_families, ways_of)

LEAF = (0, True, ())


def slow_kept(custom, family, story):
    founder = grow(family)
    there = set(ways_of(founder))
    ahead = line_of_claim(custom, founder)
    died = set()
    for deed in story:
        member = at(founder, deed[1])
        if deed[0] == "death":
            member.is_alive = False
            died.add(deed[1])
        else:
            member.children.append(Member(deed[2], True, []))
    left = tuple(way for way in line_of_claim(custom, founder) if way in there)
    return left == tuple(way for way in ahead if way not in died)


class Kept(unittest.TestCase):

    def test_against_members(self):
        rng = random.Random(1300)
        told = {True: 0, False: 0}
        for custom in [ELDEST, YOUNGEST, NOBODY] + customs(1301, 20, 2, 4) + big_customs(1311, 30, 2, 3, 3):
            for family in small_families(1302, 8, most=15, marks=custom[0]):
                story = random_story(rng, grow(family), 5, custom[0])
                is_right = slow_kept(custom, family, story)
                told[is_right] += 1
                self.assertIs(is_kept(custom, family, story), is_right)
                self.assertIs(is_kept(custom, family, ()), True)
        self.assertGreater(min(told.values()), 15)

    def test_newborn_members(self):
        story = (("birth", (), 0), ("birth", (0,), 0), ("death", (0,)), ("birth", (0, 0), 0), ("death", (0, 0)))
        self.assertIs(is_kept(ELDEST, (LEAF,), story), True)
        self.assertIs(is_kept(YOUNGEST, (LEAF,), story), True)
        self.assertIs(is_kept(NOBODY, (LEAF,), story), True)

    def test_200_deeds_and_300_members(self):
        family = (LEAF, (0, True, (0,) * 299))
        births = tuple(("birth", (place,), 0) for place in range(200))
        self.assertIs(is_kept(ELDEST, family, births), True)
        self.assertEqual(raised(is_kept, ELDEST, family, births + births[:1]), ("BadStory", None))
        wide = (LEAF, (0, True, (0,) * 300))
        self.assertEqual(raised(is_kept, ELDEST, wide, births), ("TooGreat", 300))
        self.assertEqual(raised(is_kept, ELDEST, wide, births + births[:1]), ("BadStory", None))
        self.assertEqual(raised(is_kept, ELDEST, wide, (("death", (300,)),)), ("BadStory", 0))

    def test_errors_in_their_order(self):
        self.assertEqual(raised(is_kept, None, None, None), ("BadCustom", "form"))
        self.assertEqual(raised(is_kept, ELDEST, None, None), ("BadFamily", None))
        self.assertEqual(raised(is_kept, ELDEST, ((1, True, ()),), None), ("BadFamily", 0))
        self.assertEqual(raised(is_kept, ELDEST, doubled(300), None), ("BadFamily", None))
        for story, place in ((None, None), ([], None), ("", None), ((None,), 0), ((("birth", (), 1),), 0),
                             ((("death", ()), ("death", ())), 1), ((("birth", (), 0), ("death", (1,))), 1),
                             ((("birth", (), True),), 0)):
            self.assertEqual(raised(is_kept, ELDEST, (LEAF,), story), ("BadStory", place))
            self.assertEqual(raised(is_kept, story=story, family=(LEAF,), custom=ELDEST), ("BadStory", place))
        self.assertEqual(raised(is_kept, ELDEST, doubled(100), (("death", (2,)),)), ("BadStory", 0))
        self.assertEqual(raised(is_kept, ELDEST, doubled(100), ()), ("TooGreat", 300))


class Lasting(unittest.TestCase):

    def told_customs(self):
        return ([ELDEST, YOUNGEST, NOBODY] + customs(1303, 120, 2, 4) + customs(1304, 40, 1, 6)
                + [custom_of(rule) for rule in rules(1305, 120, 2)] + big_customs(1306, 4))

    def test_harm_shows_it(self):
        told = {None: 0, 1: 0, 2: 0, 3: 0}
        for custom in self.told_customs():
            found = harm(custom)
            self.assertIs(is_lasting(custom), found is None)
            told[None if found is None else len(found[1])] += 1
            if found is not None:
                family, story = found
                self.assertEqual(short(family), family)
                self.assertTrue(all(line[0] < custom[0] for line in family))
                self.assertTrue(1 <= len(story) <= 3)
                if size_of(family) <= 300:
                    self.assertIs(is_kept(custom, family, story), False)
                    self.assertIs(slow_kept(custom, family, story), False)
        self.assertGreater(min(told[None], told[1]), 40)

    def test_stories_of_one_two_and_three_deeds(self):
        always = ((1, "self"),)
        last = (((0, "none"), (1, "new")),) * 2
        # a founder without children is heir
        read = (((1, "none"),) * 2,) * 2
        founder = (1, (False, False), (False, True), read, ((((0, "none"),) * 2, always + ((0, "none"),)),))
        # a dead one's only child is heir, a living one itself
        read = (((2, "none"), (1, "new")),) + (((2, "none"),) * 2,) * 2
        dead = ((0, "none"), (1, "line"), (0, "none"))
        only = (1, (False, True, False), (False, True), read, ((dead, always * 3),))
        # the youngest child's line, whoever that one is; a living one itself as long as it is childless
        read = (((2, "none"), (1, "new")),) * 3
        youngest = (1, (False, True, False), (False, True), read, ((dead, always + ((1, "line"), (0, "none"))),))
        # a dead one's youngest child's line, whoever that one is; a living one itself
        dead_ones = (1, (False, True), (False, True), last, ((dead[:2], always * 2),))
        for custom, many in ((founder, 1), (only, 2), (youngest, 2), (dead_ones, 3)):
            self.assertIs(is_steady(custom), True)
            family, story = harm(custom)
            self.assertEqual(len(story), many)
            self.assertIs(slow_kept(custom, family, story), False)
        self.assertEqual(harm(founder), ((LEAF,), (("birth", (), 0),)))
        self.assertEqual(harm(youngest), ((LEAF,), (("birth", (), 0), ("death", (0,)))))
        self.assertEqual(harm(dead_ones), ((LEAF, (0, True, (0,))), (("birth", (), 0), ("death", (1,)), ("death", ()))))

    def test_stories_in_small_families_of_lasting_ones(self):
        rng = random.Random(1308)
        lasting = [custom for custom in self.told_customs() if is_lasting(custom)][:50]
        for custom in lasting:
            for family in small_families(1309, 5, most=12, marks=custom[0]):
                for _ in range(3):
                    self.assertIs(is_kept(custom, family, random_story(rng, grow(family), 10, custom[0])), True)

    def test_short_stories_in_all_small_families(self):
        families = all_families(3, 1)
        for custom in [ELDEST, YOUNGEST] + customs(1310, 25, 1, 3):
            harmed = any(not is_kept(custom, family, story) for family in families for story in self.stories(family))
            if harmed:
                self.assertFalse(is_lasting(custom))
            elif not is_lasting(custom):
                self.assertGreater(size_of(harm(custom)[0]), 3)

    def stories(self, family, many=3):
        """All stories of at most so many deeds."""
        found = [()]
        for story in found:
            if len(story) < many:
                there = behind(family, story)
                for way in ways_of(grow(there)):
                    for deed in (("birth", way, 0), ("death", way)):
                        if raised(need_deed, there, deed, 1) is None:
                            found.append(story + (deed,))
            if len(found) > 150:
                break
        return found

    def test_facts(self):
        for custom in self.told_customs()[::3]:
            births = [outcomes(custom, ("birth", mark)) for mark in range(custom[0])]
            stillbirths = [outcomes(custom, ("stillbirth", mark)) for mark in range(custom[0])]
            is_right = is_steady(custom) and all(set(told) <= {"none", "same", "newborn"} for told in births)
            is_right = is_right and all(set(told) <= {"none", "same"} for told in stillbirths)
            self.assertIs(is_lasting(custom), is_right)

    def test_by_hand(self):
        self.assertIs(is_lasting(ELDEST), True)
        self.assertIs(is_lasting(NOBODY), True)
        self.assertIs(is_lasting(YOUNGEST), True)
        self.assertIsNone(harm(ELDEST))

    def test_wrong_customs(self):
        for function in (is_lasting, harm):
            self.assertEqual(raised(function, None), ("BadCustom", "form"))
            self.assertEqual(raised(function, custom=ELDEST[:4] + (0,)), ("BadCustom", "close"))


if __name__ == "__main__":
    unittest.main()
