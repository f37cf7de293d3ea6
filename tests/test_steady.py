"""heirlines.steady: point [47]"""

import itertools
import random
import unittest

from heirlines.outcomes import outcomes
from heirlines.plain import is_one_order
from heirlines.reached import reached_ranks, reached_stands
from heirlines.ruled import custom_of
from heirlines.shorts import short
from heirlines.steady import check_steady, is_steady, steady_paper
from tests.helper import (ELDEST, NOBODY, YOUNGEST, all_families, all_rules, at, big_customs, customs, doubled, grow,
                          heir_in, line_of_claim, raised, rules, size_of, small_families, ways_of)

LEAF = (0, True, ())
WHOS = ("none", "same", "marked", "other")


def slow_unsteady(custom, families):
    """The sizes of the families in which some death changes the heir, who is another one."""
    sizes = []
    for family in families:
        founder = grow(family)
        heir = heir_in(custom, founder)
        for way in ways_of(founder):
            member = at(founder, way)
            if member.is_alive and way != heir:
                member.is_alive = False
                if heir_in(custom, founder) != heir:
                    sizes.append(size_of(family))
                member.is_alive = True
    return sizes


def steady_customs():
    told = [ELDEST, YOUNGEST, NOBODY] + [custom for custom in customs(1200, 150, 2, 5) if is_steady(custom)]
    return told + [custom_of(rule) for rule in rules(1201, 60, 2) if is_one_order(rule)]


class IsSteady(unittest.TestCase):

    def test_against_all_small_families(self):
        families = all_families(4, 1)
        for custom in [ELDEST, YOUNGEST, NOBODY] + customs(1202, 40, 1, 4):
            sizes = slow_unsteady(custom, families)
            paper = steady_paper(custom)
            self.assertIs(is_steady(custom), paper[0] == "steady")
            if sizes:
                self.assertFalse(is_steady(custom))
            elif not is_steady(custom):
                self.assertGreater(size_of(paper[1]), 4)

    def test_rules_of_one_order(self):
        for rule in all_rules()[::3] + rules(1203, 60, 2) + rules(1204, 60, 3):
            self.assertIs(is_steady(custom_of(rule)), is_one_order(rule))

    def test_by_outcomes(self):
        for custom in customs(1205, 60, 3, 6) + big_customs(1206, 5):
            self.assertIs(is_steady(custom), set(outcomes(custom, ("another",))) <= {"none", "same"})

    def test_the_claims_behind_a_death(self):
        for custom in steady_customs()[:40]:
            for family in small_families(1207, 6, most=12, marks=custom[0]):
                founder = grow(family)
                ahead = line_of_claim(custom, founder)
                for way in ways_of(founder):
                    if at(founder, way).is_alive:
                        at(founder, way).is_alive = False
                        self.assertEqual(line_of_claim(custom, founder), tuple(one for one in ahead if one != way))
                        at(founder, way).is_alive = True

    def test_by_hand(self):
        self.assertIs(is_steady(ELDEST), True)
        self.assertIs(is_steady(YOUNGEST), True)
        self.assertIs(is_steady(NOBODY), True)
        # a dead member's line comes ahead of a living one's
        rule = (1, ("self",), (True,), (("eldest", ((0, "late"),)), ("eldest", ((0, "self"),))))
        self.assertIs(is_steady(custom_of(rule)), False)


class Papers(unittest.TestCase):

    def check(self, custom, paper, word):
        self.assertEqual(raised(check_steady, custom, paper), ("BadPaper", word))

    def test_right_ones(self):
        told = {"steady": 0, "unsteady": 0}
        for custom in steady_customs() + customs(1208, 80, 2, 6) + big_customs(1209, 6):
            paper = steady_paper(custom)
            told[paper[0]] += 1
            self.assertEqual(check_steady(custom, paper), paper[0])
            if paper[0] == "unsteady":
                self.assertEqual(short(paper[1]), paper[1])
                self.assertIn(paper[2], ways_of(grow(paper[1])))
            else:
                for triples, reached in ((paper[1], reached_ranks(custom)), (paper[2], reached_stands(custom))):
                    self.assertEqual(len(set(triples)), len(triples))
                    self.assertTrue(all(one in reached and two in reached for one, two, _ in triples))
        self.assertGreater(min(told.values()), 40)

    def test_form(self):
        _, lines, stands = steady_paper(ELDEST)
        for paper in (None, 0, "steady", (), [], ["steady", lines, stands], ("steady",), ("steady", lines),
                      ("steady", lines, stands, ()), ("Steady", lines, stands), (None, lines, stands),
                      (["steady"], lines, stands), ("unsteady", (LEAF,)), (True, lines, stands)):
            self.check(ELDEST, paper, "form")

    def test_another_order(self):
        rng = random.Random(1210)
        for custom in steady_customs()[:60]:
            _, lines, stands = steady_paper(custom)
            lines, stands = list(lines), list(stands)
            rng.shuffle(lines)
            rng.shuffle(stands)
            self.assertEqual(check_steady(custom, ("steady", tuple(lines), tuple(stands))), "steady")

    def test_a_triple_left_out_put_in_or_told_twice(self):
        rng = random.Random(1211)
        for custom in steady_customs()[:60]:
            _, lines, stands = steady_paper(custom)
            # what is told is needed, each triple of it
            for at_line in range(len(lines)):
                self.check(custom, ("steady", lines[:at_line] + lines[at_line + 1:], stands), "steady")
            for at_stand in range(len(stands)):
                self.check(custom, ("steady", lines, stands[:at_stand] + stands[at_stand + 1:]), "steady")
            self.check(custom, ("steady", lines + (rng.choice(lines),), stands), "steady")
            self.check(custom, ("steady", lines, stands + (rng.choice(stands),)), "steady")
            self.check(custom, ("steady", lines + ((reached_ranks(custom)[0],) * 2 + ("other",),), stands), "steady")
            for triple in itertools.product(reached_ranks(custom), reached_ranks(custom), WHOS):
                if triple not in lines:
                    word = self.slow_word(custom, lines + (triple,), stands)
                    self.assertEqual(raised(check_steady, custom, ("steady", lines + (triple,), stands)), word)

    def slow_word(self, custom, lines, stands):
        """What is told of tables of the right form, by the rules (a) to (e)."""
        due_lines, due_stands = set(), set()
        read, close = custom[3], custom[4]

        def led(word, far, leads, stays, who):
            if word == far == "none":
                return "none"
            if word == far == stays:
                return "same"
            if word == far == leads:
                return who
            return "marked" if word == leads and who == "marked" else "other"

        for stand in reached_stands(custom):
            for dead, living in close:
                words = living[stand][1], dead[stand][1]
                who = {("line", "line"): "same", ("none", "none"): "none"}.get(words, "other")
                due_lines.add((living[stand][0], dead[stand][0], "marked" if words[0] == "self" else who))
            for one, two, who in lines:
                first, second = read[stand][one], read[stand][two]
                due_stands.add((first[0], second[0], led(first[1], second[1], "new", "old", who)))
        for one, two, who in stands:
            for rank in reached_ranks(custom):
                first, second = read[one][rank], read[two][rank]
                due_stands.add((first[0], second[0], led(first[1], second[1], "old", "new", who)))
            for pair in close:
                for row in pair:
                    due_lines.add((row[one][0], row[two][0], led(row[one][1], row[two][1], "line", "self", who)))
        right = due_lines <= set(lines) and due_stands <= set(stands) and all(who != "other" for _, _, who in lines)
        return None if right else ("BadPaper", "steady")

    def test_larger_closed_tables(self):
        found = 0
        for custom in steady_customs()[:40]:
            paper = steady_paper(custom)
            for triple in itertools.product(reached_ranks(custom), reached_ranks(custom), WHOS[:3]):
                lines, stands = set(paper[1]) | {triple}, set(paper[2])
                # all that the further triple needs
                many = 0
                while many < len(lines) + len(stands):
                    many = len(lines) + len(stands)
                    self.close(custom, lines, stands)
                told = ("steady", tuple(sorted(lines)), tuple(sorted(stands)))
                word = self.slow_word(custom, told[1], told[2])
                self.assertEqual(raised(check_steady, custom, told), word)
                found += word is None and len(lines) > len(paper[1])
        self.assertGreater(found, 20)

    def close(self, custom, lines, stands):
        def led(word, far, leads, stays, who):
            if word == far:
                return who if word == leads else "same" if word == stays else "none"
            return "marked" if word == leads and who == "marked" else "other"

        for one, two, who in list(lines):
            for stand in reached_stands(custom):
                first, second = custom[3][stand][one], custom[3][stand][two]
                stands.add((first[0], second[0], led(first[1], second[1], "new", "old", who)))
        for one, two, who in list(stands):
            for rank in reached_ranks(custom):
                first, second = custom[3][one][rank], custom[3][two][rank]
                stands.add((first[0], second[0], led(first[1], second[1], "old", "new", who)))
            for pair in custom[4]:
                for row in pair:
                    lines.add((row[one][0], row[two][0], led(row[one][1], row[two][1], "line", "self", who)))

    def test_broken_tables(self):
        _, lines, stands = steady_paper(ELDEST)
        for value in (None, 0, "", [], list(lines), {}, (None,), (lines[0][:2],), (lines[0] + (0,),),
                      ([1, 1, "same"],), lines + ((2, 0, "none"),), lines + ((0, -1, "none"),),
                      lines + ((True, 1, "same"),), lines + ((1, 1, "all"),), lines + ((1, 1, None),),
                      lines + ((1, 1, ["same"]),), lines + (("1", 1, "same"),), lines + (([1], 1, "same"),)):
            self.check(ELDEST, ("steady", value, stands), "steady")
            self.check(ELDEST, ("steady", lines, value), "steady")
        self.check(ELDEST, ("steady", (), ()), "steady")
        unsteady = [custom for custom in customs(1212, 60, 1, 4) if not is_steady(custom)]
        for custom in unsteady:
            self.check(custom, ("steady", lines, stands), "steady")

    def test_unsteady_papers(self):
        custom = custom_of((1, ("self",), (True,), (("eldest", ((0, "late"),)), ("eldest", ((0, "self"),)))))
        # the elder child is heir, until the younger one dies, whose child lives
        family = (LEAF, (0, True, (0,)), (0, False, (0, 1)))
        self.assertEqual(check_steady(custom, ("unsteady", family, (1,))), "unsteady")
        for way in ((), (0,), (1, 0), (2,), None, [1], (True,), (1, 0, 0)):
            self.check(custom, ("unsteady", family, way), "unsteady")
        for value in (None, 0, (), [], list(family), ((1, True, ()),), ((0, True, (0,)),)):
            self.check(custom, ("unsteady", value, ()), "unsteady")
        for custom in (ELDEST, YOUNGEST, NOBODY):
            for way in ways_of(grow(family)):
                self.check(custom, ("unsteady", family, way), "unsteady")

    def test_any_number_of_members(self):
        custom = custom_of((1, ("self",), (True,), (("eldest", ((0, "late"),)), ("eldest", ((0, "self"),)))))
        great = doubled(300) + ((0, False, (299, 299)),)
        self.assertEqual(check_steady(custom, ("unsteady", great, (1,))), "unsteady")
        self.check(custom, ("unsteady", great, (0,)), "unsteady")
        self.check(ELDEST, ("unsteady", great, (1,)), "unsteady")

    def test_wrong_customs(self):
        for function, more in ((is_steady, ()), (steady_paper, ()), (check_steady, (None,))):
            self.assertEqual(raised(function, None, *more), ("BadCustom", "form"))
            self.assertEqual(raised(function, ELDEST[:4] + (0,), *more), ("BadCustom", "close"))


if __name__ == "__main__":
    unittest.main()
