"""heirlines.plain: points [33] and [34]"""

import itertools
import random
import unittest

from heirlines.plain import (are_alike_rules, disorder, family_apart, is_one_order, lots_of_rules, plain_form)
from heirlines.rules import need_rule
from heirlines.shorts import short
from heirlines.walks import claimant, heir_by, how_many_claims
from tests.helper import (all_families, all_groups, all_rules, at, copied, grow, raised, random_rule, rule_claims,
                          rule_line,
                          rules, size_of, small_families, ways_of)

SELF, PAST, LATE = (0, "self"), (0, "past"), (0, "late")
ELDEST = (1, ("self",), (True,), (("eldest", (LATE, SELF)),))


class PlainForms(unittest.TestCase):

    def test_the_plain_form_of_a_plain_form(self):
        for rule in all_rules() + rules(1, 100, 2) + rules(2, 100, 3):
            plain = need_rule(plain_form(rule))
            self.assertEqual(plain_form(plain), plain)
            self.assertEqual(plain[0], rule[0])

    def test_the_same_heirs(self):
        families = all_families(4, 1)
        for rule in all_rules()[::13]:
            plain = plain_form(rule)
            for family in families:
                self.assertEqual(rule_line(plain, grow(family))[1], rule_line(rule, grow(family))[1])
        for rule in rules(3, 40, 3):
            for family in small_families(140, 20, most=20):
                self.assertEqual(heir_by(plain_form(rule), family), heir_by(rule, family))

    def test_by_hand(self):
        rule = (1, ("self",), (True,), (("eldest", (PAST,)), ("youngest", (LATE, SELF))))
        self.assertEqual(plain_form(rule), (1, ("self",), (True,), (("youngest", (LATE, SELF)),)))
        rule = (1, ("last",), (False,), (("eldest", (LATE, PAST)),))
        self.assertEqual(plain_form(rule), (1, ("self",), (False,), ()))
        rule = (3, ("last", "line", "none"), (True, False, True), (("eldest", ((2, "self"),)),))
        self.assertEqual(plain_form(rule), (3, ("self", "none", "none"), (False,) * 3, ()))
        rule = (2, ("self", "line"), (False, False), (("eldest", ((0, "self"),)), ("eldest", ((1, "past"), (1,
                                                                                                            "self")))))
        self.assertEqual(plain_form(rule), (2, ("self", "line"), (False, False),
                                            (("eldest", ((0, "self"),)), ("eldest", ((1, "past"),)))))
        rule = (1, ("self",), (False,), (("eldest", (SELF,)),))
        self.assertEqual(plain_form(rule), (1, ("self",), (False,), ()))

    def test_888_rules_and_122_plain_forms(self):
        families = all_families(5, 1)
        founders = [grow(family) for family in families]
        shown = {}
        for rule in all_rules():
            shown.setdefault(plain_form(rule), rule)
        self.assertEqual(len(shown), 122)
        heirs = {tuple(rule_line(plain, founder)[1] for founder in founders) for plain in shown}
        self.assertEqual(len(heirs), 122)

    def test_wrong_ones(self):
        for function in (plain_form, is_one_order, disorder):
            self.assertEqual(raised(function, None), ("BadRule", "form"))
            self.assertEqual(raised(function, rule=(1, (), (), ())), ("BadRule", "living"))


class Alike(unittest.TestCase):

    def test_families_that_part_rules_of_one_mark(self):
        told = sorted({plain_form(rule) for rule in all_rules()})
        rng = random.Random(5)
        for rule in told:
            for other in rng.sample(told, 25):
                self.check(rule, other)

    def test_all_rules_of_one_mark(self):
        rng = random.Random(6)
        told = all_rules()
        for _ in range(400):
            self.check(rng.choice(told), rng.choice(told))

    def test_more_marks(self):
        rng = random.Random(7)
        for marks in (2, 3):
            for _ in range(60):
                rule = random_rule(rng, marks)
                self.check(rule, random_rule(rng, marks))
                self.check(rule, self.changed(rule, rng))

    def changed(self, rule, rng):
        """A rule that differs in one thing."""
        marks, living, dead, groups = rule
        mark = rng.randrange(marks)
        way = rng.randrange(3)
        if way == 0:
            living = living[:mark] + (rng.choice(("self", "last", "line", "none")),) + living[mark + 1:]
        elif way == 1:
            dead = dead[:mark] + (not dead[mark],) + dead[mark + 1:]
        elif groups:
            groups = groups[:-1] + ((rng.choice(("eldest", "youngest")), groups[-1][1]),)
        return (marks, living, dead, groups)

    def check(self, rule, other):
        family = family_apart(rule, other)
        self.assertIs(are_alike_rules(rule, other), plain_form(rule) == plain_form(other))
        self.assertIs(are_alike_rules(rule, other), family is None)
        if family is not None:
            self.assertLessEqual(size_of(family), 5)
            self.assertEqual(short(family), family)
            self.assertNotEqual(rule_line(rule, grow(family))[1], rule_line(other, grow(family))[1])
            self.assertNotEqual(heir_by(rule, family), heir_by(other, family))

    def test_no_family_parts_alike_ones(self):
        families = all_families(4, 1)
        by_form = {}
        for rule in all_rules():
            by_form.setdefault(plain_form(rule), []).append(rule)
        for lot in list(by_form.values())[::6]:
            for rule in lot[1:4]:
                self.assertIsNone(family_apart(lot[0], rule))
                for family in families[::3]:
                    self.assertEqual(rule_line(lot[0], grow(family))[1], rule_line(rule, grow(family))[1])

    def test_wrong_ones(self):
        two = rules(8, 1, 2)[0]
        for function in (are_alike_rules, family_apart):
            self.assertEqual(raised(function, None, None), ("BadRule", "form"))
            self.assertEqual(raised(function, ELDEST, (0,) + ELDEST[1:]), ("BadRule", "marks"))
            self.assertEqual(raised(function, ELDEST, two), ("BadMarks", 2))
            self.assertEqual(raised(function, two, ELDEST), ("BadMarks", 1))
            self.assertEqual(raised(function, two[:1] + (None,) + two[2:], ELDEST[:2] + (None, None)),
                             ("BadRule", "living"))
            self.assertEqual(raised(function, other_rule=ELDEST[:3] + (None,), rule=two), ("BadRule", "groups"))


class OneOrder(unittest.TestCase):

    def slow_disorder(self, rule, family):
        founder = grow(family)
        heir = rule_line(rule, founder)[1]
        for way in ways_of(founder):
            if at(founder, way).is_alive and way != heir:
                dead = copied(founder)
                at(dead, way).is_alive = False
                if rule_line(rule, dead)[1] != heir:
                    return way
        return None

    def check_told(self, rule):
        told = disorder(rule)
        self.assertIs(is_one_order(rule), told is None)
        if told is not None:
            family, way = told
            self.assertLessEqual(size_of(family), 5)
            self.assertEqual(short(family), family)
            founder = grow(family)
            self.assertTrue(at(founder, way).is_alive)
            heir = rule_line(rule, founder)[1]
            self.assertNotEqual(heir, way)
            at(founder, way).is_alive = False
            self.assertNotEqual(rule_line(rule, founder)[1], heir)

    def test_all_rules_of_one_mark(self):
        for rule in all_rules():
            self.check_told(rule)

    def test_more_marks(self):
        for rule in rules(9, 150, 2) + rules(10, 100, 3):
            self.check_told(rule)

    def test_rules_of_two_marks_where_rows_have_a_claimant(self):
        # kinds of the second mark other than "self" never come here
        groups = [told for told in all_groups([LATE, PAST, SELF, (1, "self")])
                  if any((1, "self") in kinds for _, kinds in told)]
        self.assertEqual(len(groups), 984)
        for number, told in enumerate(groups):
            for place, word in enumerate(("self", "last", "line", "none")):
                if (number + place) % 3 == 0:
                    for is_led in (False, True):
                        self.check_told((2, (word, "self"), (is_led, False), told))

    def test_by_hand_for_each_word(self):
        own = ("eldest", ((1, "self"),))
        for living, dead, kinds, is_ordered in (
                ("self", False, (LATE,), True), ("self", True, (LATE,), False), ("self", True, (SELF,), True),
                ("self", True, (), True), ("self", True, (LATE, SELF), True),
                ("last", False, (), False), ("last", True, (), True), ("last", True, (LATE, PAST), True),
                ("last", True, (LATE, PAST, SELF), True), ("last", True, (PAST,), False), ("last", True, (SELF,),
                                                                                           False),
                ("line", False, (), False), ("line", True, (), True), ("line", True, (LATE,), False),
                ("line", True, (LATE, PAST), True), ("none", False, (), True), ("none", True, (), False)):
            groups = (own, ("eldest", kinds)) if kinds else (own,)
            rule = (2, (living, "self"), (dead, False), groups)
            self.assertIs(is_one_order(rule), is_ordered, rule)
            self.check_told(rule)

    def test_no_disorder_in_small_families(self):
        families = all_families(4, 1)
        forms = sorted({plain_form(rule) for rule in all_rules()})
        for rule in forms:
            found = any(self.slow_disorder(rule, family) is not None for family in families)
            if found:
                self.assertIs(is_one_order(rule), False)
            if is_one_order(rule):
                self.assertFalse(found)

    def test_least_disorders_of_five_members_are_enough(self):
        families = all_families(5, 1)
        forms = sorted({plain_form(rule) for rule in all_rules()})
        for rule in forms[::9]:
            sizes = [size_of(family) for family in families if self.slow_disorder(rule, family) is not None]
            self.assertIs(is_one_order(rule), not sizes)
            if sizes:
                self.assertEqual(size_of(disorder(rule)[0]), min(sizes))

    def test_the_line_of_claim_behind_any_deaths(self):
        rng = random.Random(12)
        chosen = [rule for rule in rules(11, 300, 2) if is_one_order(rule)]
        self.assertGreater(len(chosen), 3)
        for rule in chosen[:20]:
            for family in small_families(141, 8, most=20, marks=2):
                founder = grow(family)
                told = [way for _, way in rule_claims(rule, founder)]
                dying = [way for way in ways_of(founder) if rng.random() < 0.3]
                for way in dying:
                    at(founder, way).is_alive = False
                left = [way for way in told if way not in dying]
                self.assertEqual([way for _, way in rule_claims(rule, founder)], left)

    def test_by_hand(self):
        self.assertIs(is_one_order(ELDEST), True)
        self.assertIsNone(disorder(ELDEST))
        unordered = (1, ("self",), (True,), (("eldest", (LATE,)), ("eldest", (SELF,))))
        self.assertIs(is_one_order(unordered), False)
        family = ((0, True, ()), (0, True, (0,)))
        self.assertEqual((how_many_claims(ELDEST, family), claimant(ELDEST, family, 1)), (2, (0,)))


class Lots(unittest.TestCase):

    def test_lots(self):
        told = all_rules()
        rng = random.Random(13)
        for many in (1, 2, 30, 60):
            chosen = tuple(rng.choice(told) for _ in range(many))
            lots = lots_of_rules(chosen)
            self.assertEqual(sorted(itertools.chain(*lots)), list(range(many)))
            self.assertEqual(tuple(sorted(lots)), lots)
            for lot in lots:
                self.assertEqual(tuple(sorted(lot)), lot)
                self.assertEqual(len({plain_form(chosen[number]) for number in lot}), 1)
            self.assertEqual(len({plain_form(rule) for rule in chosen}), len(lots))

    def test_by_hand(self):
        other = (1, ("self",), (True,), (("eldest", (LATE, SELF)), ("youngest", (PAST,))))
        none = (1, ("none",), (True,), ())
        self.assertEqual(lots_of_rules((none, ELDEST, none, other)), ((0, 2), (1, 3)))
        self.assertEqual(lots_of_rules(rules=(ELDEST,)), ((0,),))

    def test_wrong_ones_thing_by_thing(self):
        two = rules(8, 1, 2)[0]
        for value in (None, 0, [], [ELDEST], "", (), (ELDEST,) * 61, (None,) * 61):
            self.assertEqual(raised(lots_of_rules, value), ("BadNumber", value))
        self.assertIsNone(raised(lots_of_rules, (ELDEST,) * 60))
        self.assertEqual(raised(lots_of_rules, (None, two)), ("BadRule", "form"))
        self.assertEqual(raised(lots_of_rules, (ELDEST, two, None)), ("BadMarks", 2))
        self.assertEqual(raised(lots_of_rules, (ELDEST, None, two)), ("BadRule", "form"))
        self.assertEqual(raised(lots_of_rules, (two, two, ELDEST)), ("BadMarks", 1))
        self.assertEqual(raised(lots_of_rules, (two, two[:2] + (None, None))), ("BadRule", "dead"))


if __name__ == "__main__":
    unittest.main()
