"""heirlines.outcomes: points [45] and [46]"""

import random
import unittest

from heirlines.customs import renumbered
from heirlines.least import least_custom
from heirlines.outcomes import look_behind, outcome_case, outcomes
from heirlines.shorts import short
from tests.helper import (ELDEST, NOBODY, YOUNGEST, Member, all_families, at, big_customs, customs, doubled, grow,
                          heir_in, raised, relation, size_of, small_families, ways_of, with_states_twice, with_turns)

LOOKS = ("none", "first", "second", "same", "above", "below", "elder", "younger", "newborn")
LEAF = (0, True, ())


def changes(marks):
    return [("heir",), ("another",)] + [(word, mark) for word in ("birth", "stillbirth") for mark in range(marks)]


def looks_of(custom, family):
    """All (CHANGE, WAY, LOOK) of the instances in a small family."""
    founder = grow(family)
    heir = heir_in(custom, founder)
    for way in ways_of(founder):
        member = at(founder, way)
        if member.is_alive:
            member.is_alive = False
            yield ("heir",) if heir == way else ("another",), way, relation(heir, heir_in(custom, founder))
            member.is_alive = True
        for word in ("birth", "stillbirth"):
            for mark in range(custom[0]):
                member.children.append(Member(mark, word == "birth", []))
                far_heir = heir_in(custom, founder)
                is_newborn = far_heir == way + (len(member.children) - 1,)
                yield (word, mark), way, "newborn" if is_newborn else relation(heir, far_heir)
                member.children.pop()


class LookBehind(unittest.TestCase):

    def test_against_members(self):
        for custom in [ELDEST, YOUNGEST, NOBODY] + customs(1100, 20, 2, 5):
            for family in small_families(1101, 8, most=15, marks=custom[0]):
                told = {(change, way): look for change, way, look in looks_of(custom, family)}
                for change in changes(custom[0]):
                    for way in ways_of(grow(family)):
                        if (change, way) in told:
                            self.assertEqual(look_behind(custom, change, family, way), told[change, way])
                        else:
                            self.assertEqual(raised(look_behind, custom, change, family, way), ("BadWay", way))

    def test_what_is_no_instance(self):
        family = (LEAF, (0, False, ()), (0, True, (0, 1)))
        self.assertEqual(look_behind(ELDEST, ("heir",), family, ()), "above")
        self.assertEqual(look_behind(ELDEST, ("another",), family, (0,)), "same")
        for way in ((0,), (1,), (2,), None, [], (True,), ((),)):
            self.assertEqual(raised(look_behind, ELDEST, ("heir",), family, way), ("BadWay", way))
        for way in ((), (1,), (2,), None, [], (True,)):
            self.assertEqual(raised(look_behind, ELDEST, ("another",), family, way), ("BadWay", way))
        for way in ((2,), (0, 0), None, [], (False,)):
            self.assertEqual(raised(look_behind, ELDEST, ("birth", 0), family, way), ("BadWay", way))
        # dead members get children as well
        self.assertEqual(look_behind(ELDEST, ("birth", 0), ((0, False, ()),), ()), "newborn")
        self.assertEqual(look_behind(ELDEST, ("stillbirth", 0), ((0, False, ()),), ()), "none")

    def test_any_number_of_members_lines_and_children(self):
        great = doubled(300)
        self.assertEqual(look_behind(ELDEST, ("heir",), great, ()), "above")
        self.assertEqual(look_behind(YOUNGEST, ("birth", 0), great, (1,) * 299), "newborn")
        self.assertEqual(look_behind(ELDEST, ("another",), great, (0, 1, 0)), "same")
        wide = (LEAF, (0, True, (0,) * 600))
        self.assertEqual(look_behind(YOUNGEST, ("birth", 0), wide, ()), "newborn")
        self.assertEqual(look_behind(YOUNGEST, ("stillbirth", 0), wide, ()), "same")
        long = (LEAF,) + tuple((0, True, (number,)) for number in range(1999))
        self.assertEqual(look_behind(YOUNGEST, ("birth", 0), long, (0,) * 1999), "newborn")
        self.assertEqual(look_behind(YOUNGEST, ("birth", 0), long, (0,) * 1000), "newborn")

    def test_changes_that_are_none(self):
        for change in (None, 0, "heir", (), [], ["heir"], ("heir", 0), ("another", 0), ("birth",), ("stillbirth",),
                       ("birth", 1), ("birth", -1), ("birth", True), ("birth", None), ("stillbirth", 1),
                       ("birth", 0, 0),
                       ("death",), ("Heir",), (["heir"],), (None, 0), ("birth", (0,)), ("stillbirth", False)):
            for function, more in ((look_behind, (None, None)), (outcomes, ()), (outcome_case, (None,))):
                self.assertEqual(raised(function, ELDEST, change, *more), ("BadDeed", "form"))
                self.assertEqual(raised(function, None, change, *more), ("BadCustom", "form"))
        two = customs(1102, 1, 2)[0]
        self.assertIsNone(raised(outcomes, two, ("birth", 1)))
        self.assertEqual(raised(outcomes, two, ("birth", 2)), ("BadDeed", "form"))

    def test_families(self):
        for family, place in ((None, None), ((), None), (((1, True, ()),), 0), ((LEAF, (0, True, (1,))), 1)):
            self.assertEqual(raised(look_behind, ELDEST, ("heir",), family, None), ("BadFamily", place))


class Outcomes(unittest.TestCase):

    def check(self, custom, families, most):
        least = {}
        for family in families:
            size = size_of(family)
            for change, _, look in looks_of(custom, family):
                least[change, look] = min(least.get((change, look), 99), size)
        for change in changes(custom[0]):
            told = outcomes(custom, change)
            self.assertEqual(told, tuple(look for look in LOOKS if look in told))
            for look in LOOKS:
                case = outcome_case(custom, change, look)
                self.assertIs(case is not None, look in told)
                size = 99 if case is None else size_of(case[0])
                if size <= most or (change, look) in least:
                    self.assertEqual(size, least.get((change, look)))

    def test_against_all_small_families(self):
        families = all_families(5, 1)
        for custom in [ELDEST, YOUNGEST, NOBODY] + customs(1103, 20, 1, 4):
            self.check(custom, families, 5)

    def test_two_marks(self):
        families = all_families(3, 2)
        for custom in customs(1104, 20, 2, 4):
            self.check(custom, families, 3)

    def test_cases_have_their_looks(self):
        for custom in customs(1105, 40, 2, 6) + big_customs(1106, 5):
            for change in changes(custom[0]):
                for look in outcomes(custom, change):
                    family, way = outcome_case(custom, change, look)
                    self.assertEqual(short(family), family)
                    self.assertEqual(look_behind(custom, change, family, way), look)

    def test_alike_ones_have_the_same(self):
        rng = random.Random(1107)
        for custom in customs(1108, 40, 2, 6):
            others = (least_custom(custom), renumbered(custom, *with_turns(custom, rng)),
                      with_states_twice(custom, rng))
            for change in changes(2):
                for other in others:
                    self.assertEqual(outcomes(other, change), outcomes(custom, change))
                    for look in outcomes(custom, change):
                        self.assertEqual(size_of(outcome_case(other, change, look)[0]),
                                         size_of(outcome_case(custom, change, look)[0]))

    def test_facts(self):
        for custom in customs(1109, 60, 3, 6):
            self.assertTrue(set(outcomes(custom, ("heir",))) <= {"first", "above", "below", "elder", "younger"})
            for change in changes(3):
                if change[0] != "birth":
                    self.assertNotIn("newborn", outcomes(custom, change))

    def test_by_hand(self):
        self.assertEqual(outcomes(ELDEST, ("heir",)), ("first", "above", "elder"))
        self.assertEqual(outcomes(ELDEST, ("another",)), ("same",))
        self.assertEqual(outcomes(ELDEST, ("birth", 0)), ("same", "newborn"))
        self.assertEqual(outcomes(ELDEST, ("stillbirth", 0)), ("none", "same"))
        self.assertEqual(outcomes(NOBODY, ("heir",)), ())
        self.assertEqual(outcomes(NOBODY, ("another",)), ("none",))
        self.assertEqual(outcome_case(ELDEST, ("heir",), "first"), ((LEAF,), ()))
        self.assertIsNone(outcome_case(NOBODY, ("heir",), "first"))

    def test_words_that_are_no_looks(self):
        for word in (None, 0, "", "None", "heir", ("none",), [], True, "newborn "):
            self.assertEqual(raised(outcome_case, ELDEST, ("heir",), word), ("BadName", word))
            self.assertEqual(raised(outcome_case, ELDEST, ("heir", 0), word), ("BadDeed", "form"))


if __name__ == "__main__":
    unittest.main()
