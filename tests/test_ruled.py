"""heirlines.ruled: point [33]"""

import random
import unittest

from heirlines.alike import are_alike
from heirlines.customs import is_custom, renumbered
from heirlines.heirs import heir
from heirlines.plain import plain_form
from heirlines.ruled import custom_of, rule_of
from heirlines.ruletables import small_table
from heirlines.walks import heir_by
from tests.helper import (ELDEST, NOBODY, YOUNGEST, all_customs, all_families, all_rules, big_customs, customs, grow,
                          heir_in, raised, random_rule, rule_line, rules, small_families, with_place_changed,
                          with_states_twice, with_turns)

KINDS = tuple((mark, how) for mark in range(3) for how in ("late", "past", "self"))


def rule_of_groups(many, marks=3):
    """A rule with so many groups of one or two kinds each."""
    kinds = KINDS[:3 * marks]
    groups = tuple(("youngest" if place % 2 else "eldest", (kinds[place],)) for place in range(many))
    return (marks, ("last",) * marks, (True,) * marks, groups)


SIX = (3, ("last", "line", "self"), (True, True, False), (
    ("youngest", ((1, "late"),)), ("eldest", ((0, "self"), (2, "self"))), ("eldest", ((0, "late"),)),
    ("youngest", ((0, "past"), (1, "past"))), ("eldest", ((2, "late"),)), ("youngest", ((1, "self"), (2, "past")))))


class CustomOf(unittest.TestCase):

    def check(self, rule):
        custom = custom_of(rule)
        self.assertTrue(is_custom(custom))
        self.assertEqual(custom[0], rule[0])
        self.assertLessEqual(len(custom[1]), len(rule[3]) + 1)
        self.assertLessEqual(len(custom[2]), len(rule[3]) + 2)
        return custom

    def test_small_families(self):
        families = all_families(4, 1)
        founders = [grow(family) for family in families]
        for rule in all_rules()[::7]:
            custom = self.check(rule)
            for founder in founders:
                self.assertEqual(heir_in(custom, founder), rule_line(rule, founder)[1])

    def test_two_and_three_marks(self):
        for marks, families in ((2, all_families(3, 2)), (3, all_families(2, 3))):
            for rule in rules(500, 25, marks):
                custom = self.check(rule)
                for family in families + small_families(501, 15, most=30, marks=marks):
                    self.assertEqual(heir(custom, family), heir_by(rule, family))

    def test_no_group_and_six(self):
        for many in range(7):
            rule = rule_of_groups(many)
            custom = self.check(rule)
            for family in small_families(502, 60, most=40):
                self.assertEqual(heir(custom, family), heir_by(rule, family))
        self.assertEqual(len(self.check(rule_of_groups(0, 1))[1]), 1)
        custom = self.check(SIX)
        self.assertEqual((len(custom[1]), len(custom[2])), (7, 8))
        for family in small_families(503, 150, most=60):
            self.assertEqual(heir(custom, family), heir_by(SIX, family))

    def test_wrong_ones(self):
        self.assertEqual(raised(custom_of, None), ("BadRule", "form"))
        self.assertEqual(raised(custom_of, rule=rule_of_groups(7)), ("BadRule", "groups"))


class RuleOf(unittest.TestCase):

    def test_all_rules_of_one_mark(self):
        for rule in all_rules():
            self.assertEqual(rule_of(custom_of(rule)), plain_form(rule))

    def test_more_marks(self):
        for rule in rules(504, 80, 2) + rules(505, 80, 3) + [SIX] + [rule_of_groups(many) for many in range(7)]:
            self.assertEqual(rule_of(custom_of(rule)), plain_form(rule))

    def test_renumbered_and_told_twice(self):
        rng = random.Random(506)
        for rule in rng.sample(all_rules(), 60) + rules(507, 40, 2) + rules(508, 30, 3):
            custom = custom_of(rule)
            if len(custom[1]) < 8 and len(custom[2]) < 8:
                custom = with_states_twice(custom, rng)
            stands, ranks = with_turns(custom, rng)
            custom = renumbered(custom, stands, ranks)
            self.assertTrue(is_custom(custom))
            self.assertEqual(rule_of(custom), plain_form(rule))

    def test_one_place_changed(self):
        rng = random.Random(509)
        told = {True: 0, False: 0}
        for marks in (1, 2, 3):
            families = small_families(510, 60, most=25, marks=marks)
            for _ in range(120):
                custom = with_place_changed(custom_of(random_rule(rng, marks)), rng)
                rule = rule_of(custom)
                told[rule is None] += 1
                if rule is not None:
                    self.assertEqual(plain_form(rule), rule)
                    for family in families:
                        self.assertEqual(heir(custom, family), heir_by(rule, family))
        self.assertGreater(min(told.values()), 20)

    def test_none_exactly_where_no_rule_does(self):
        plain = sorted({plain_form(rule) for rule in all_rules()})
        founders = [grow(family) for family in all_families(4, 1)]
        shown = {tuple(rule_line(rule, founder)[1] for founder in founders) for rule in plain}
        tables = [small_table(rule) for rule in plain]
        for custom in all_customs(2, 2)[::9] + customs(511, 60, 1, 4):
            rule = rule_of(custom)
            if rule is None:
                heirs = tuple(heir_in(custom, founder) for founder in founders)
                if heirs in shown:
                    # no small family tells, so all families are asked
                    self.assertFalse(any(are_alike(custom, table) for table in tables))
            else:
                self.assertTrue(are_alike(custom, small_table(rule)))

    def test_by_hand(self):
        self.assertEqual(rule_of(ELDEST), (1, ("self",), (True,), (("eldest", ((0, "late"), (0, "self"))),)))
        self.assertEqual(rule_of(YOUNGEST), (1, ("last",), (True,), (
            ("youngest", ((0, "late"), (0, "past"), (0, "self"))),)))
        self.assertEqual(rule_of(NOBODY), (1, ("none",), (False,), ()))
        # the second child of all, whoever it is, has no rule
        read = (((1, "none"), (1, "none")), ((2, "none"), (2, "new")), ((2, "old"), (2, "old")))
        read = (read[0], ((3, "none"), (2, "new")), ((2, "old"), (2, "old")), ((3, "none"), (3, "none")))
        close = ((((0, "none"), (0, "none"), (1, "line"), (0, "none")), ((1, "self"),) * 4),)
        self.assertIsNone(rule_of((1, (False, False, True, False), (False, True), read, close)))

    def test_seven_groups_are_no_rule(self):
        # a table like that of a rule, with a seventh group
        table = small_table(rule_of_groups(7, 3))
        self.assertEqual(len(table[1]), 8)
        ranks = table[2][:8]
        read = tuple(row[:8] for row in table[3])
        close = tuple(tuple(tuple((rank if rank < 8 else 0, pick if rank < 8 else "none") for rank, pick in row)
                            for row in pair) for pair in table[4])
        custom = (3, table[1], ranks, read, close)
        self.assertTrue(is_custom(custom))
        self.assertIsNone(rule_of(custom))

    def test_big_ones(self):
        for custom in big_customs(512, 10):
            self.assertIsNone(rule_of(custom))

    def test_wrong_ones(self):
        self.assertEqual(raised(rule_of, None), ("BadCustom", "form"))
        self.assertEqual(raised(rule_of, custom=ELDEST[:4] + (0,)), ("BadCustom", "close"))


if __name__ == "__main__":
    unittest.main()
