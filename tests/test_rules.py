"""heirlines.rules: points [30] and [33]"""

import itertools
import unittest

from heirlines.rules import (all_kinds, has_rows, how_many_plain_forms, how_many_rules, kinds_that_come,
                             mirrored_family, mirrored_rule, mirrored_way, need_rule)
from heirlines.plain import plain_form
from heirlines.walks import heir_by
from heirlines.shorts import short
from heirlines.ways import line_at
from tests.helper import (all_families, all_groups, all_rules, at, chain, doubled, great_family, grow, raised,
                          rule_line, rules, small_families, tell, ways_of, with_members)

SELF, PAST, LATE = (0, "self"), (0, "past"), (0, "late")
RULE = (1, ("self",), (True,), (("eldest", (LATE, SELF)), ("youngest", (PAST,))))
LEAF = (0, True, ())


def word_of(rule):
    told = raised(need_rule, rule)
    return None if told is None else told[1]


def spoilt(place, value):
    return RULE[:place] + (value,) + RULE[place + 1:]


class NeedRule(unittest.TestCase):

    def test_rules_are_told_back(self):
        for rule in all_rules()[::7] + rules(1, 40, 2) + rules(2, 40, 3):
            self.assertIs(need_rule(rule), rule)

    def test_form(self):
        for value in (None, 0, "", "abcd", [], list(RULE), (), RULE[:3], RULE + ((),), True):
            self.assertEqual(word_of(value), "form")

    def test_marks(self):
        for marks in (0, 4, -1, True, None, "1", (1,), 10 ** 900):
            self.assertEqual(word_of(spoilt(0, marks)), "marks")
        self.assertEqual(word_of(spoilt(0, 2)), "living")

    def test_living(self):
        for living in (None, "self", ["self"], (), ("self", "self"), ("Self",), (None,), (0,), ("",), (("self",),),
                       (["self"],), ("past",), "l"):
            self.assertEqual(word_of(spoilt(1, living)), "living")
        for word in ("self", "last", "line", "none"):
            self.assertIsNone(word_of(spoilt(1, (word,))))

    def test_dead(self):
        for dead in (None, True, [True], (), (True, True), (1,), (0,), (None,), ("True",)):
            self.assertEqual(word_of(spoilt(2, dead)), "dead")

    def test_groups(self):
        wrong = (None, 0, "", [], [("eldest", (SELF,))], ("eldest", (SELF,)), (("eldest",),), (("eldest", ()),),
                 (("eldest", SELF),), (("eldest", [SELF]),), (["eldest", (SELF,)],), (("elder", (SELF,)),),
                 ((None, (SELF,)),), (("eldest", (SELF,), 0),), (("eldest", (SELF, LATE)),), (("eldest", (SELF,
                                                                                                          SELF)),),
                 (("eldest", (SELF,)), ("youngest", (SELF,))), (("eldest", ((1, "self"),)),), (("eldest", ((-1,
                                                                                                            "self"),)),),
                 (("eldest", ((False, "self"),)),), (("eldest", ((0, "last"),)),), (("eldest", ((0, None),)),),
                 (("eldest", ((0, "self", 1),)),), (("eldest", ([0, "self"],)),), (("eldest", ("self",)),),
                 (("eldest", (None,)),), (("eldest", ((None, "self"),)),), (("eldest", (SELF,)), None),
                 (("eldest", (LATE, SELF)), ("eldest", (LATE, PAST))))
        for groups in wrong:
            self.assertEqual(word_of(spoilt(3, groups)), "groups", groups)
        self.assertIsNone(word_of(spoilt(3, ())))

    def test_six_groups_and_seven(self):
        kinds = [(mark, how) for mark in range(3) for how in ("late", "past", "self")]
        for many in (5, 6, 7, 9):
            rule = (3, ("self",) * 3, (True,) * 3, tuple(("eldest", (kind,)) for kind in kinds[:many]))
            self.assertEqual(word_of(rule), None if many <= 6 else "groups")
        whole = (3, ("self",) * 3, (True,) * 3, (("eldest", tuple(kinds)),))
        self.assertIsNone(word_of(whole))

    def test_the_first_wrong_word_is_told(self):
        words = ("marks", "living", "dead", "groups")
        for first in range(4):
            for second in range(first, 4):
                rule = list(RULE)
                rule[first] = rule[second] = None
                self.assertEqual(word_of(tuple(rule)), words[first])


class Kinds(unittest.TestCase):

    def test_all_kinds(self):
        self.assertEqual(all_kinds(1), (LATE, PAST, SELF))
        for marks in (1, 2, 3):
            told = all_kinds(marks)
            self.assertEqual(len(told), 3 * marks)
            self.assertEqual(tuple(sorted(set(told))), told)
        for function in (all_kinds, how_many_rules, how_many_plain_forms):
            for marks in (0, 4, True, None, "1", (), 10 ** 900):
                self.assertEqual(raised(function, marks), ("BadNumber", marks))
                self.assertEqual(raised(function, marks=marks), ("BadNumber", marks))

    def kinds_shown(self, rule, families):
        shown = set()
        for family in families:
            for number in range(len(family)):
                shown.add(rule_line(rule, grow(family, number))[0])
        return tuple(sorted(shown - {None}))

    def test_kinds_that_come_are_those_that_families_show(self):
        families = all_families(3, 1)
        for rule in all_rules()[::3]:
            self.assertEqual(kinds_that_come(rule), self.kinds_shown(rule, families))
        families = all_families(3, 2)
        for rule in rules(3, 40, 2):
            self.assertEqual(kinds_that_come(rule), self.kinds_shown(rule, families))

    def test_has_rows(self):
        for rule in all_rules()[::2] + rules(4, 40, 2) + rules(5, 40, 3):
            marks, living, dead, groups = rule
            counted = [kind for _, kinds in groups for kind in kinds]
            own = any((mark, "self") in counted and living[mark] in ("self", "last") for mark in range(marks))
            led = any(dead) or "last" in living or "line" in living
            self.assertIs(has_rows(rule), own and led)

    def test_wrong_ones(self):
        for function in (kinds_that_come, has_rows, mirrored_rule, need_rule):
            self.assertEqual(raised(function, None), ("BadRule", "form"))
            self.assertEqual(raised(function, rule=spoilt(2, ())), ("BadRule", "dead"))


class Mirrored(unittest.TestCase):

    def test_rule(self):
        self.assertEqual(mirrored_rule(RULE)[3], (("youngest", (LATE, SELF)), ("eldest", (PAST,))))
        for rule in rules(6, 30, 2):
            self.assertEqual(mirrored_rule(mirrored_rule(rule)), rule)
            self.assertEqual(mirrored_rule(rule)[:3], rule[:3])

    def mirror(self, member):
        for child in member.children:
            self.mirror(child)
        member.children.reverse()
        return member

    def test_family_and_way(self):
        for family in small_families(110, 60):
            mirrored = mirrored_family(family)
            self.assertEqual(mirrored, tell(self.mirror(grow(family))))
            self.assertEqual(mirrored_family(mirrored), short(family))
            for way in ways_of(grow(family)):
                turned = mirrored_way(family, way)
                self.assertEqual(mirrored_way(mirrored, turned), way)
                self.assertEqual(mirrored_family(line_at(family, way)), line_at(mirrored, turned))

    def test_great_ones(self):
        family = great_family(110)
        self.assertEqual(mirrored_family(mirrored_family(family)), short(family))
        self.assertEqual(mirrored_way(doubled(199), (0, 1) * 99), (1, 0) * 99)
        self.assertEqual(mirrored_family(chain(2000)), chain(2000))
        self.assertEqual(mirrored_way(chain(2000), (0,) * 1999), (0,) * 1999)
        self.assertIsNotNone(mirrored_family(((2, True, ()),)))

    def test_the_heir_is_mirrored(self):
        for rule in all_rules()[::37] + rules(7, 20, 3):
            for family in small_families(111, 12, marks=rule[0]):
                heir = heir_by(rule, family)
                mirrored = heir_by(mirrored_rule(rule), mirrored_family(family))
                self.assertEqual(mirrored, None if heir is None else mirrored_way(family, heir))

    def test_wrong_ones(self):
        self.assertEqual(raised(mirrored_family, ()), ("BadFamily", None))
        self.assertEqual(raised(mirrored_way, (1,), (5,)), ("BadFamily", 0))
        self.assertEqual(raised(mirrored_way, with_members(10 ** 60 + 1), ()), ("BadFamily", None))
        for way in (None, [], (1,), (0, 0), (True,), "0", (-1,)):
            self.assertEqual(raised(mirrored_way, (LEAF, (0, True, (0,))), way), ("BadWay", way))
        self.assertEqual(at(grow((LEAF,)), ()).mark, 0)


class HowMany(unittest.TestCase):

    def test_one_mark(self):
        told = all_rules()
        self.assertEqual((len(told), len(set(told))), (888, 888))
        self.assertEqual((how_many_rules(1), how_many_plain_forms(1)), (888, 122))
        self.assertEqual(len({plain_form(rule) for rule in told}), 122)

    def slow_groups(self, kinds, most=6):
        """By how many kinds stand in each group: for each kind a group or none, no group without a kind."""
        many = 0
        for groups in range(most + 1):
            for without in range(groups + 1):
                sign = -1 if without % 2 else 1
                ways = self.choose(groups, without) * (groups - without + 1) ** kinds
                many += sign * ways * 2 ** groups
        return many

    def choose(self, items, chosen):
        return len(list(itertools.combinations(range(items), chosen)))

    def test_groups_counted_otherwise(self):
        for kinds in range(5):
            self.assertEqual(self.slow_groups(kinds), len(all_groups(list(range(kinds)))))
        for marks in (1, 2, 3):
            self.assertEqual(how_many_rules(marks), 8 ** marks * self.slow_groups(3 * marks))

    def test_plain_forms_counted_otherwise(self):
        words, truths = ("self", "last", "line", "none"), (False, True)
        for marks in (1, 2, 3):
            many = 2 ** marks
            for living in itertools.product(words, repeat=marks):
                for dead in itertools.product(truths, repeat=marks):
                    own = sum(word in ("self", "last") for word in living)
                    others = sum(word in ("last", "line") for word in living) + sum(dead)
                    if others:
                        many += self.slow_groups(own + others) - self.slow_groups(others)
            self.assertEqual(how_many_plain_forms(marks), many)

    def test_two_and_three_marks(self):
        self.assertEqual(how_many_rules(2), 12788160)
        self.assertEqual(how_many_plain_forms(2), 293140)
        self.assertEqual(how_many_rules(3), 192843972096)
        self.assertEqual(how_many_plain_forms(3), 804494648)


if __name__ == "__main__":
    unittest.main()
