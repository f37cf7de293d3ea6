"""heirlines.walks: points [31] and [32]"""

import itertools
import random
import unittest

from heirlines.deeds import deaths_of
from heirlines.lines import need_family
from heirlines.shorts import short
from heirlines.walks import (claimant, heir_by, how_many_claims, kind_by, place_in_claim, row_stretches, stretches)
from heirlines.ways import line_at, own_line
from tests.helper import (all_families, all_rules, chain, doubled, great_family, grow, raised, retold, rule_claims,
                          rule_line, rules, small_families, ways_of)

SELF, PAST, LATE = (0, "self"), (0, "past"), (0, "late")
LEAF = (0, True, ())
# the eldest living member ahead of its line; dead members lead on
ELDEST = (1, ("self",), (True,), (("eldest", (LATE, SELF)),))
# the youngest last; those without a living line ahead
YOUNGEST = (1, ("last",), (True,), (("youngest", (SELF,)), ("eldest", (LATE, PAST))))


class Small(unittest.TestCase):

    def check(self, rule, family):
        founder = grow(family)
        told = rule_claims(rule, founder)
        kind, heir = rule_line(rule, founder)
        self.assertEqual(heir_by(rule, family), heir)
        self.assertEqual(kind_by(rule, family), kind)
        self.assertEqual(how_many_claims(rule, family), len(told))
        expected = tuple((key, len(list(group))) for key, group in itertools.groupby(told, key=lambda pair: pair[0]))
        self.assertEqual(stretches(rule, family), expected)
        for number, (_, way) in enumerate(told):
            self.assertEqual(claimant(rule, family, number), way)
        for number in (len(told), len(told) + 1, 10 ** 900):
            self.assertIsNone(claimant(rule, family, number))
        places = {way: number for number, (_, way) in enumerate(told)}
        for way in ways_of(founder):
            self.assertEqual(place_in_claim(rule, family, way), places.get(way))

    def test_all_families_of_one_mark(self):
        families = all_families(3, 1)
        for rule in all_rules()[::5]:
            for family in families:
                self.check(rule, family)

    def test_families_of_four_members(self):
        families = all_families(4, 1)
        for rule in [ELDEST, YOUNGEST] + all_rules()[3::111]:
            for family in families:
                self.check(rule, family)

    def test_random_ones(self):
        for marks in (1, 2, 3):
            for rule in rules(10 + marks, 40, marks):
                for family in small_families(120 + marks, 6, most=25, marks=marks):
                    self.check(rule, family)

    def test_rows(self):
        for rule in rules(20, 60, 2) + all_rules()[1::40]:
            for family in small_families(130, 6, most=20, marks=rule[0]):
                self.check_row(rule, family)

    def check_row(self, rule, family):
        """The founder's row is what a founder leads on that is dead, or is as one is by DEAD."""
        leading = (rule[0], rule[1], (True,) * rule[0], rule[3])
        children = grow(family).children
        wanted = []
        founder = grow(family)
        founder.is_alive = False
        # kill the row's claimant again and again, by the rule itself below the founder
        lines = [rule_claims(rule, child) for child in children]
        ahead = [0] * len(children)
        while True:
            place = self.next_child(rule, lines, ahead)
            if place is None:
                break
            wanted.append((place, ahead[place], lines[place][ahead[place]][0]))
            ahead[place] += 1
        told = row_stretches(rule, family)
        opened = [(child, first + more) for child, first, many in told for more in range(many)]
        self.assertEqual(opened, [(place, number) for place, number, _ in wanted])
        for child, first, many in told:
            self.assertGreater(many, 0)
            kinds = {lines[child][number][0] for number in range(first, first + many)}
            self.assertEqual(len(kinds), 1)
        kinds = [(child, first) for child, first, _ in told]
        self.assertEqual(len(set(kinds)), len(kinds))
        self.assertTrue(all(sum(child == other for other, _ in kinds) <= 2 for child, _ in kinds))
        self.assertEqual(leading[0], rule[0])

    def next_child(self, rule, lines, ahead):
        for side, kinds in rule[3]:
            places = [place for place, line in enumerate(lines)
                      if ahead[place] < len(line) and line[ahead[place]][0] in kinds]
            if places:
                return places[0] if side == "eldest" else places[-1]
        return None

    def test_by_hand(self):
        family = (LEAF, (0, False, (0, 0)), (0, True, (1, 0)))
        self.assertEqual([claimant(ELDEST, family, number) for number in range(5)],
                         [(), (0, 0), (0, 1), (1,), None])
        self.assertEqual(stretches(ELDEST, family), ((SELF, 1), (LATE, 3)))
        self.assertEqual(row_stretches(ELDEST, family), ((0, 0, 2), (1, 0, 1)))
        self.assertEqual(kind_by(ELDEST, family), SELF)
        self.assertEqual([claimant(YOUNGEST, family, number) for number in range(5)],
                         [(1,), (0, 1), (0, 0), (), None])
        self.assertEqual(stretches(YOUNGEST, family), ((PAST, 3), (SELF, 1)))
        self.assertEqual(row_stretches(YOUNGEST, family), ((1, 0, 1), (0, 0, 2)))
        self.assertEqual(kind_by(YOUNGEST, ((0, False, ()),)), None)
        self.assertEqual(stretches(YOUNGEST, ((0, False, ()),)), ())
        self.assertEqual(heir_by(YOUNGEST, ((0, False, ()),)), None)

    def test_kinds_that_do_not_count(self):
        rule = (1, ("last",), (True,), (("eldest", (SELF,)),))
        # a child that leads on its row's claimant is PAST or LATE, which don't count
        family = (LEAF, (0, True, (0,)), (0, True, (1,)))
        self.assertEqual(heir_by(rule, family), ())
        self.assertEqual(row_stretches(rule, family), ())
        self.assertEqual(stretches(rule, family), ((SELF, 1),))
        self.assertEqual(place_in_claim(rule, family, (0,)), None)
        rule = (1, ("line",), (True,), (("eldest", (LATE, PAST, SELF)),))
        self.assertEqual(heir_by(rule, family), None)
        # the founder's line takes nothing of the row, which is told all the same
        rule = (1, ("none",), (False,), (("eldest", (SELF,)),))
        self.assertEqual(how_many_claims(rule, family), 0)
        two = (2, ("self", "none"), (False, False), (("youngest", ((0, "self"),)),))
        told = (LEAF, (1, True, (0, 0)))
        self.assertEqual(row_stretches(two, told), ((1, 0, 1), (0, 0, 1)))
        self.assertEqual(stretches(two, told), ())
        self.assertIsNone(kind_by(two, told))

    def test_a_line_gives_nothing_more_behind_a_kind_that_does_not_count(self):
        rule = (1, ("self",), (True,), (("eldest", (SELF,)),))
        family = (LEAF, (0, True, (0, 0)), (0, True, (1, 0)))
        self.assertEqual(row_stretches(rule, family), ((0, 0, 1), (1, 0, 1)))
        self.assertIsNone(place_in_claim(rule, family, (0, 0)))
        self.assertEqual(place_in_claim(rule, family, (1,)), 2)


class Great(unittest.TestCase):

    def check_facts(self, rule, family, rng):
        many = how_many_claims(rule, family)
        parts = stretches(rule, family)
        self.assertEqual(sum(part for _, part in parts), many)
        self.assertLessEqual(len(parts), 2)
        self.assertIsNone(claimant(rule, family, many))
        self.assertEqual(heir_by(rule, family), claimant(rule, family, 0))
        self.assertEqual(kind_by(rule, family), parts[0][0] if parts else None)
        if many == 0:
            return
        for number in [0, many - 1] + [rng.randrange(many) for _ in range(10)]:
            way = claimant(rule, family, number)
            self.assertTrue(own_line(family, way)[1])
            self.assertEqual(place_in_claim(rule, family, way), number)
        first = claimant(rule, family, 0)
        dead = deaths_of(family, (first,))
        self.assertEqual(how_many_claims(rule, dead), many - 1)
        for number in [0] + [rng.randrange(many) for _ in range(4)]:
            self.assertEqual(claimant(rule, dead, number), claimant(rule, family, number + 1))

    def check_rows(self, rule, family):
        lines = short(family)
        children = lines[-1][2]
        for child, first, many in row_stretches(rule, family):
            line = line_at(lines, (child,))
            self.assertLessEqual(first + many, how_many_claims(rule, line))
            starts = (0,) + tuple(itertools.accumulate(part for _, part in stretches(rule, line)))
            self.assertIn(first, starts)
            self.assertIn(first + many, starts)
        self.assertLessEqual(len(row_stretches(rule, family)), 2 * len(children))

    def test_facts(self):
        rng = random.Random(11)
        for marks in (1, 2, 3):
            for number, rule in enumerate(rules(30 + marks, 15, marks) + ([ELDEST, YOUNGEST] if marks == 1 else [])):
                family = great_family(number + 50, marks=marks)
                self.check_facts(rule, family, rng)
                self.check_rows(rule, family)
                self.assertEqual(stretches(rule, retold(family, 2)) if marks == 3 else (),
                                 stretches(rule, family) if marks == 3 else ())

    def test_known_ones(self):
        family = doubled(199)
        self.assertEqual(how_many_claims(ELDEST, family), 2 ** 199 - 1)
        self.assertEqual(claimant(ELDEST, family, 198), (0,) * 198)
        self.assertEqual(claimant(ELDEST, family, 2 ** 199 - 2), (1,) * 198)
        self.assertEqual(stretches(ELDEST, family), ((SELF, 1), (LATE, 2 ** 199 - 2)))
        self.assertEqual(row_stretches(ELDEST, family),
                         ((0, 0, 1), (0, 1, 2 ** 198 - 2), (1, 0, 1), (1, 1, 2 ** 198 - 2)))
        self.assertEqual(place_in_claim(ELDEST, family, (1,)), 2 ** 198)

    def test_long_ones(self):
        self.assertEqual(how_many_claims(ELDEST, chain(2000)), 2000)
        self.assertEqual(claimant(ELDEST, chain(2000), 1999), (0,) * 1999)
        self.assertEqual(place_in_claim(ELDEST, chain(2000), (0,) * 1999), 1999)
        last = (1, ("last",), (True,), (("youngest", (LATE, PAST, SELF)),))
        self.assertEqual(heir_by(last, chain(2000)), (0,) * 1999)
        self.assertEqual(claimant(last, chain(2000), 1999), ())
        wide = need_family((LEAF, (0, True, (0,) * 600)))
        self.assertEqual(row_stretches(last, wide), tuple((599 - place, 0, 1) for place in range(600)))


class WrongOnes(unittest.TestCase):

    def test_in_their_order(self):
        family = chain(3)
        three = (LEAF, (1, True, ()), LEAF)
        for function, more in ((heir_by, ()), (kind_by, ()), (how_many_claims, ()), (stretches, ()),
                               (row_stretches, ()), (claimant, (-1,)), (place_in_claim, ((9,),))):
            self.assertEqual(raised(function, None, None, *more), ("BadRule", "form"))
            self.assertEqual(raised(function, ELDEST[:3] + (None,), family, *more), ("BadRule", "groups"))
            self.assertEqual(raised(function, ELDEST, None, *more), ("BadFamily", None))
            self.assertEqual(raised(function, ELDEST, three, *more), ("BadFamily", 1))
            self.assertEqual(raised(function, ELDEST, (LEAF, 5), *more), ("BadFamily", 1))
        for number in (-1, True, None, "0", (0,), -10 ** 900):
            self.assertEqual(raised(claimant, ELDEST, family, number), ("BadNumber", number))
            self.assertEqual(raised(claimant, number=number, family=family, rule=ELDEST), ("BadNumber", number))
        for way in (None, 0, [0], (1,), (0, 0, 0), (True,), "0"):
            self.assertEqual(raised(place_in_claim, ELDEST, family, way), ("BadWay", way))
            self.assertEqual(raised(place_in_claim, way=way, family=family, rule=ELDEST), ("BadWay", way))


if __name__ == "__main__":
    unittest.main()
