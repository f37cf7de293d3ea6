"""heirlines.cases: points [68] and [69]"""

import random
import unittest

from heirlines.cases import (all_paper, all_paper_shows, fitting, heirs_by, misfits, need_cases, parting_all)
from heirlines.heirs import heir
from heirlines.parted import parting_family
from tests.helper import (ELDEST, NOBODY, YOUNGEST, all_families, at, big_custom, customs, grow, heir_in, narrow, raised,
                          random_custom, relation, size_of, small_families, ways_of)

LEAF = (0, True, ())
TWO = (LEAF, (0, True, (0,)))


class Cases(unittest.TestCase):

    def test_fits_by_hand(self):
        rng = random.Random(3900)
        for marks in (1, 2):
            for _ in range(25):
                told = tuple(customs(rng.random(), 4, marks, 4))
                cases = []
                for family in small_families(rng.random(), 8, 12, marks, 5):
                    living = [way for way in ways_of(grow(family)) if at(grow(family), way).is_alive]
                    cases.append((family, rng.choice([heir_in(told[0], grow(family))] * 3 + living + [None])))
                cases = tuple(cases)
                self.assertIs(need_cases(cases), cases)
                fits = []
                for number, custom in enumerate(told):
                    wrong = [place for place, (family, own) in enumerate(cases) if heir_in(custom, grow(family)) != own]
                    self.assertEqual(misfits(custom, cases), tuple(wrong))
                    fits += [] if wrong else [number]
                self.assertEqual(fitting(told, cases), tuple(fits))
                self.check_heirs(told, cases[:2], marks)

    def check_heirs(self, told, cases, marks):
        for family in small_families(3901, 4, 12, marks, 5):
            heirs = []
            for number in fitting(told, cases):
                own = heir_in(told[number], grow(family))
                heirs += [] if own in heirs else [own]
            self.assertEqual(heirs_by(told, cases, family), tuple(heirs))

    def test_the_first_custom_tells_the_order(self):
        family = (LEAF, (0, False, (0, 0)))
        self.assertEqual(heirs_by((ELDEST, YOUNGEST, ELDEST, NOBODY), (), family), ((0,), (1,), None))
        self.assertEqual(heirs_by((NOBODY, YOUNGEST, ELDEST), (), family), (None, (1,), (0,)))
        self.assertEqual(heirs_by((NOBODY, YOUNGEST, ELDEST), ((TWO, (0,)),), family), ((1,),))
        self.assertEqual(heirs_by((NOBODY,), ((TWO, ()),), family), ())
        self.assertEqual(fitting((ELDEST,) * 12, ((TWO, ()),)), tuple(range(12)))
        self.assertEqual(misfits(ELDEST, ()), ())

    def test_how_many_cases(self):
        cases = ((TWO, ()),) * 6000
        self.assertIs(need_cases(cases), cases)
        self.assertEqual(misfits(YOUNGEST, cases), tuple(range(6000)))
        self.assertEqual(raised(need_cases, cases + cases[:1]), ("BadCases", None))
        self.assertEqual(raised(need_cases, (None,) * 6001), ("BadCases", None))

    def test_marks_that_the_customs_have_not(self):
        cases = ((TWO, ()), (((1, True, ()),), ()), (((2, True, ()),), None))
        self.assertIs(need_cases(cases), cases)
        two, three = random_custom(random.Random(1), 2), random_custom(random.Random(1), 3)
        self.assertEqual(raised(misfits, ELDEST, cases), ("BadCases", 1))
        self.assertEqual(raised(misfits, two, cases), ("BadCases", 2))
        self.assertEqual(raised(fitting, (two, two), cases), ("BadCases", 2))
        self.assertIsNone(raised(misfits, three, cases))
        self.assertEqual(raised(heirs_by, (two,), cases, None), ("BadCases", 2))
        self.assertEqual(raised(heirs_by, (two,), cases[:1], (((2, True, ()),))), ("BadFamily", 0))

    def test_great_families(self):
        family = narrow(10 ** 60)
        self.assertEqual(misfits(ELDEST, ((family, ()), (family, (0,)), (family, ()))), (1,))
        self.assertEqual(raised(need_cases, ((family, ()), (narrow(10 ** 60 + 1), ()))), ("BadCases", 1))
        self.assertEqual(raised(need_cases, ((family, ()), (narrow(10 ** 60 + 1), None))), ("BadCases", 1))


def parts(told, founder):
    heirs = [heir_in(custom, founder) for custom in told]
    return len(set(heirs)) == len(heirs)


def read_all(told, row, line):
    """The state of a row behind a child, by the words of [19]."""
    cells = [custom[3][stand][rank] for custom, stand, rank in zip(told, row[0], line[0])]
    words = {("old", "new"): "elder", ("new", "old"): "younger"}
    return tuple(cell[0] for cell in cells), tuple(
        lone(cells[one][1], cells[two][1]) or words.get((cells[one][1], cells[two][1])) or
        (row[1][place] if cells[one][1] == "old" else line[1][place])
        for place, (one, two) in enumerate(pairs(told)))


def lone(word, far_word):
    return {(True, True): "none", (False, True): "first", (True, False): "second"}.get(
        (word == "none", far_word == "none"))


def pairs(told):
    return [(0, 1)] if len(told) == 2 else [(0, 1), (0, 2), (1, 2)]


class AtOnce(unittest.TestCase):

    def test_least_of_all_small_families(self):
        rng = random.Random(3902)
        founders = [grow(family) for family in all_families(5, 1)]
        shown = set()
        for _ in range(120):
            told = tuple(random_custom(rng, 1, rng.randint(2, 5)) for _ in range(rng.choice((2, 3))))
            family = parting_all(told)
            paper = all_paper(told)
            least = next((len(ways_of(founder)) for founder in founders if parts(told, founder)), None)
            shown.add((len(told), least))
            if family is None:
                self.assertIsNone(least)
                self.assertEqual(paper[0], "never")
                self.assertEqual(all_paper_shows(told, paper), "never")
                self.check_never(told, paper)
            else:
                self.assertTrue(parts(told, grow(family)))
                self.assertEqual(size_of(family) if size_of(family) <= 5 else None, least)
                self.assertEqual(paper[0], "part")
                self.assertEqual(all_paper_shows(told, paper), "parted")
        self.assertTrue({(2, 1), (2, 2), (2, None), (3, 2), (3, None)} <= shown)

    def check_never(self, told, paper):
        _, lines, rows = paper
        for founder in [grow(family) for family in all_families(3, 1)]:
            heirs = [heir_in(custom, founder) for custom in told]
            relations = tuple(relation(heirs[one], heirs[two]) for one, two in pairs(told))
            self.assertIn(relations, [line[1] for line in lines])
        for row in rows:
            for line in lines:
                self.assertIn(read_all(told, row, line), rows)
        for place in range(len(lines)):
            self.assertEqual(raised(all_paper_shows, told, ("never", lines[:place] + lines[place + 1:], rows)),
                             ("BadPaper", "table"))
        for place in range(len(rows)):
            self.assertEqual(raised(all_paper_shows, told, ("never", lines, rows[:place] + rows[place + 1:])),
                             ("BadPaper", "table"))
        if len(lines) > 1:
            self.assertEqual(raised(all_paper_shows, told, ("never", lines[::-1], rows)), ("BadPaper", "form"))

    def test_two_customs_as_two_alone(self):
        for first, second in zip(customs(3903, 40, 2, 4), customs(3904, 40, 2, 4)):
            family, other = parting_all((first, second)), parting_family(first, second)
            self.assertEqual(family is None, other is None)
            if family is not None:
                self.assertEqual(size_of(family), size_of(other))

    def test_by_hand(self):
        told = (ELDEST, YOUNGEST, NOBODY)
        self.assertEqual(heir(ELDEST, TWO), ())
        self.assertEqual(parting_all(told), TWO)
        self.assertIsNone(parting_all((ELDEST, YOUNGEST, ELDEST)))
        self.assertEqual(all_paper((NOBODY, NOBODY)), ("never", (((0, 0), ("none",)),), (((0, 0), ("none",)),)))

    def test_papers_that_are_wrong(self):
        told = (NOBODY, ELDEST)
        right = ("part", (LEAF,))
        self.assertEqual(all_paper_shows(told, right), "parted")
        for value, word in ((("part", ((0, False, ()),)), "family"), (("part", 0), "family"),
                            (("part", ((1, True, ()),)), "family"), (("Part", (LEAF,)), "form"),
                            (["part", (LEAF,)], "form"), (("part", (LEAF,), ()), "form"), (("never", (), ()), "table")):
            self.assertEqual(raised(all_paper_shows, told, value), ("BadPaper", word), value)
        # a table that is complete, but shows that they are parted
        lines = (((0, 0), ("none",)), ((0, 1), ("second",)))
        rows = (((0, 0), ("none",)), ((0, 1), ("second",)))
        self.assertEqual(raised(all_paper_shows, told, ("never", lines, rows)), ("BadPaper", "table"))
        self.assertEqual(raised(all_paper_shows, told, ("never", lines + (((0, 2), ("none",)),), rows)),
                         ("BadPaper", "form"))
        self.assertEqual(raised(all_paper_shows, told, ("never", lines, (((0, 0), ("none", "none")),))),
                         ("BadPaper", "form"))
        # more may stand there than comes
        more = ("never", (((0, 0), ("none",)),), (((0, 0), ("none",)),))
        self.assertEqual(all_paper_shows((NOBODY, NOBODY), more), "never")
        wide = (1, (False,), (False, False), (((0, "none"),) * 2,), ((((0, "none"),), ((0, "none"),)),))
        told = (wide, wide)
        self.assertEqual(all_paper_shows(told, all_paper(told)), "never")
        lines = (((0, 0), ("none",)), ((0, 1), ("none",)))
        self.assertEqual(all_paper_shows(told, ("never", lines, (((0, 0), ("none",)),))), "never")

    def test_papers_with_any_family(self):
        told = (NOBODY, ELDEST)
        self.assertEqual(all_paper_shows(told, ("part", narrow(10 ** 60 + 1))), "parted")
        self.assertEqual(all_paper_shows(told, ("part", (LEAF, LEAF))), "parted")

    def test_too_many_states(self):
        rng = random.Random(8)
        found = {raised(parting_all, tuple(big_custom(rng) for _ in range(3))) for _ in range(4)}
        self.assertEqual(found - {None}, {("TooGreat", 2000)})
        rng = random.Random(8)
        told = next(told for told in (tuple(big_custom(rng) for _ in range(3)) for _ in range(9)) if raised(
            parting_all, told))
        self.assertEqual(raised(all_paper, told), ("TooGreat", 2000))
        self.assertEqual(raised(all_paper_shows, told, None), ("BadPaper", "form"))


if __name__ == "__main__":
    unittest.main()
