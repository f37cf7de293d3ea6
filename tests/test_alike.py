"""heirlines.alike: points [37] and [38]"""

import random
import unittest

from heirlines.alike import alike_lots, alike_paper, are_alike, check_alike
from heirlines.customs import is_custom, renumbered
from heirlines.pairs import line_pairs, stand_pairs
from heirlines.shorts import short
from tests.helper import (ELDEST, NOBODY, YOUNGEST, all_families, big_customs, customs, doubled, grow, heir_in, raised,
                          size_of, with_place_changed, with_states_twice, with_turns)

START = (0, 0, "none")


def unseen(custom):
    """The custom with a stand and a rank that no family reaches, at which all differs."""
    marks, stands, ranks, read, close = custom
    stand, rank = len(stands), len(ranks)
    read = tuple(row + ((stand, "new"),) for row in read) + (((stand, "old"),) * (rank + 1),)
    close = tuple(tuple(row + ((rank, "line"),) for row in pair) for pair in close)
    return (marks, stands + (True,), ranks + (True,), read, close)


class Alike(unittest.TestCase):

    def check(self, one, two, is_alike):
        self.assertIs(are_alike(one, two), is_alike)
        self.assertIs(are_alike(two, one), is_alike)
        paper = alike_paper(one, two)
        self.assertEqual(paper[0], "alike" if is_alike else "part")
        self.assertIs(check_alike(one, two, paper), is_alike)
        if not is_alike:
            self.assertEqual(short(paper[1]), paper[1])

    def test_renumbered_ones(self):
        rng = random.Random(700)
        for custom in customs(701, 40, 2, 6) + big_customs(702, 6):
            stands, ranks = with_turns(custom, rng)
            self.check(custom, renumbered(custom, stands, ranks), True)
            self.check(custom, custom, True)

    def test_what_no_family_leads_to(self):
        for custom in customs(703, 30, 2, 6):
            self.assertTrue(is_custom(unseen(custom)))
            self.check(custom, unseen(custom), True)
            self.check(unseen(custom), custom, True)

    def test_states_told_twice(self):
        rng = random.Random(704)
        for custom in customs(705, 30, 2, 6):
            self.check(custom, with_states_twice(custom, rng), True)

    def test_near_ones_against_small_families(self):
        rng = random.Random(706)
        families = all_families(4, 1)
        told = {True: 0, False: 0}
        for custom in customs(707, 60, 1, 3):
            other = with_place_changed(custom, rng)
            is_parted = any(heir_in(custom, grow(family)) != heir_in(other, grow(family)) for family in families)
            is_alike = are_alike(custom, other)
            told[is_alike] += 1
            self.check(custom, other, is_alike)
            if is_parted:
                self.assertFalse(is_alike)
            if not is_alike and size_of(alike_paper(custom, other)[1]) <= 4:
                self.assertTrue(is_parted)
        self.assertGreater(min(told.values()), 8)

    def test_a_claimant_that_is_let_go_later(self):
        # both drop what they hold behind the last child; one holds the eldest till then, the other the youngest
        close = ((((0, "none"), (0, "none")), ((1, "self"), (1, "self"))),)
        eldest = (1, (False, True), (False, True), ELDEST[3], close)
        youngest = (1, (False, True), (False, True), YOUNGEST[3], close)
        self.check(eldest, youngest, True)
        self.assertIn("elder", {triple[2] for triple in stand_pairs(eldest, youngest)})

    def test_big_ones(self):
        for one, two in zip(big_customs(708, 8), big_customs(709, 8)):
            self.check(one, two, False)


class Papers(unittest.TestCase):
    LINES = ((0, 0, "none"), (1, 1, "same"))
    STANDS = ((0, 0, "none"), (1, 1, "same"))

    def check(self, paper, word, one=ELDEST, two=ELDEST):
        self.assertEqual(raised(check_alike, one, two, paper), ("BadPaper", word))

    def test_right_ones(self):
        self.assertEqual(alike_paper(ELDEST, ELDEST), ("alike", self.LINES, self.STANDS))
        for custom in customs(710, 30, 2, 6):
            paper = alike_paper(custom, custom)
            self.assertEqual(paper, ("alike", line_pairs(custom, custom), stand_pairs(custom, custom)))
            self.assertIs(check_alike(custom, custom, paper), True)

    def test_form(self):
        for paper in (None, 0, "", "alike", (), [], ("alike",), ("part",), ("alike", self.LINES),
                      ("part", 1, 2), ("alike", self.LINES, self.STANDS, ()), ["alike", self.LINES, self.STANDS],
                      ["part", 1], ("parted", 1), ("Alike", self.LINES, self.STANDS), (["part"], 1),
                      (None, self.LINES, self.STANDS), ("part", self.LINES, self.STANDS)):
            self.check(paper, "form")
        for rows in (None, 0, [], list(self.LINES), (None,), (START[:2],), ((0, 0, "none", 0),), ([0, 0, "none"],),
                     ((0, 2, "none"),), ((2, 0, "none"),), ((0, 0, "same"),), ((1, 1, "none"),), ((0, 1, "none"),),
                     ((1, 1, "other"),), ((True, 1, "same"),), ((1, True, "same"),), ((0, -1, "none"),), (START, START),
                     ((1, 1, "same"), START), ((1, 1, "younger"), (1, 1, "elder")), (("0", 0, "none"),),
                     ((0, 0, None),), ((1, 1, ["same"]),)):
            self.check(("alike", rows, self.STANDS), "form")
            self.check(("alike", self.LINES, rows), "form")
            self.check(("alike", rows, ()), "form")

    def test_each_word(self):
        self.check(("alike", self.LINES, ()), "start")
        self.check(("alike", (), ()), "start")
        self.check(("alike", ((1, 1, "elder"),), ((1, 1, "elder"),)), "start")
        self.check(("alike", self.LINES, (START,)), "read")
        self.check(("alike", ((1, 1, "elder"),), (START,)), "read")
        self.check(("alike", (), self.STANDS), "close")
        self.check(("alike", (START,), self.STANDS), "close")
        self.check(("alike", ((1, 1, "same"),), self.STANDS), "close")
        self.check(("alike", self.LINES[:1] + ((1, 1, "elder"), (1, 1, "same")), self.STANDS), "read")
        self.check(("alike", self.LINES, self.STANDS[:1] + ((1, 1, "elder"), (1, 1, "same"))), "close")
        self.check(("alike", self.LINES[:1] + ((1, 1, "elder"), (1, 1, "same")),
                    self.STANDS[:1] + ((1, 1, "elder"), (1, 1, "same"))), "relation")
        for value in (None, 0, "", (), [], [(0, True, ())], ((1, True, ()),), ((0, True, (0,)),), ((0, 1, ()),)):
            self.check(("part", value), "family", ELDEST, YOUNGEST)
        for family in (((0, True, ()),), ((0, False, ()), (0, False, (0,)))):
            self.check(("part", family), "heirs", ELDEST, YOUNGEST)
        self.check(("part", ((0, True, ()), (0, True, (0,)))), "heirs")
        self.assertIs(check_alike(ELDEST, YOUNGEST, ("part", ((0, True, ()), (0, True, (0,))))), False)

    def test_right_tables_of_parted_customs(self):
        for one, two in list(zip(customs(711, 30, 2, 5), customs(712, 30, 2, 5))) + [(ELDEST, YOUNGEST)]:
            paper = ("alike", line_pairs(one, two), stand_pairs(one, two))
            if are_alike(one, two):
                self.assertIs(check_alike(one, two, paper), True)
            else:
                self.check(paper, "relation", one, two)

    def test_one_triple_left_out(self):
        for custom in customs(713, 15, 2, 5):
            _, lines, stands = alike_paper(custom, custom)
            for at in range(len(lines)):
                self.check(("alike", lines[:at] + lines[at + 1:], stands), "close", custom, custom)
            for at in range(len(stands)):
                word = "start" if stands[at] == START else "read"
                self.check(("alike", lines, stands[:at] + stands[at + 1:]), word, custom, custom)

    def test_larger_closed_tables(self):
        custom = unseen(ELDEST)
        lines, stands = self.LINES, self.STANDS
        self.assertEqual(alike_paper(custom, custom), ("alike", lines, stands))
        more = (stands + ((2, 2, "same"),), lines + ((2, 2, "same"),))
        self.assertIs(check_alike(custom, custom, ("alike", more[1], more[0])), True)
        self.check(("alike", lines, more[0]), "close", custom, custom)
        self.check(("alike", more[1], stands), "read", custom, custom)
        # of stands any RELATION may stand there, as long as no line has it
        close = ((((0, "none"), (0, "none")), ((1, "self"), (1, "self"))),)
        dropping = (1, (False, True), (False, True), ELDEST[3], close)
        told = ("alike", lines, (START, (1, 1, "above"), (1, 1, "same")))
        self.assertIs(check_alike(dropping, dropping, told), True)

    def test_families_of_any_number_of_members(self):
        family = doubled(300)
        self.assertGreater(size_of(family), 10 ** 60)
        self.assertIs(check_alike(ELDEST, YOUNGEST, ("part", family)), False)
        self.check(("part", family), "heirs")
        self.check(("part", family + ((1, True, ()),)), "family")


class Lots(unittest.TestCase):

    def test_by_hand(self):
        turned = renumbered(ELDEST, (0, 1), (1, 0))
        self.assertEqual(alike_lots((ELDEST, YOUNGEST, ELDEST, NOBODY, turned, YOUNGEST, NOBODY, unseen(ELDEST))),
                         ((0, 2, 4, 7), (1, 5), (3, 6)))
        self.assertEqual(alike_lots((ELDEST,)), ((0,),))
        self.assertEqual(alike_lots((ELDEST,) * 8), (tuple(range(8)),))

    def test_against_pairs(self):
        rng = random.Random(714)
        for marks in (1, 2, 3):
            for _ in range(10):
                told = [rng.choice(customs(rng.randrange(4), 3, marks, 3)) for _ in range(rng.randint(1, 8))]
                lots = alike_lots(tuple(told))
                self.assertEqual(sorted(number for lot in lots for number in lot), list(range(len(told))))
                self.assertEqual(tuple(sorted(tuple(sorted(lot)) for lot in lots)), lots)
                where = {number: lot for lot in lots for number in lot}
                for one in range(len(told)):
                    for two in range(len(told)):
                        self.assertIs(where[one] == where[two], are_alike(told[one], told[two]))

    def test_wrong_ones(self):
        two = customs(715, 1, 2)[0]
        for value in (None, 0, "", (), [], [ELDEST], {}, (ELDEST,) * 9, (None,) * 9):
            self.assertEqual(raised(alike_lots, value), ("BadCases", None))
        for value in (None, two, ELDEST[:4], list(ELDEST), ELDEST[:4] + (0,)):
            for place in range(1, 4):
                told = (ELDEST,) * place + (value, None, YOUNGEST)
                self.assertEqual(raised(alike_lots, told), ("BadCases", place))
        self.assertEqual(raised(alike_lots, (None, two)), ("BadCases", 0))
        self.assertEqual(raised(alike_lots, customs=(two, ELDEST)), ("BadCases", 1))


if __name__ == "__main__":
    unittest.main()
