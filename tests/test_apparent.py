"""heirlines.apparent: points [55] and [56]"""

import random
import unittest

from heirlines.apparent import bound_for, check_chance, paper_for, set_aside, sure_line
from heirlines.chances import fewest, fits, future_for, newborn_costs
from heirlines.futures import deeds_to
from heirlines.shorts import short
from tests.helper import (ELDEST, NOBODY, YOUNGEST, at, big_customs, chain, customs, doubled, futures_by_few, grow,
                          heir_in, line_of_claim, raised, size_of, small_families, tell, ways_of)
from tests.test_chances import CASES, random_asked

LEAF = (0, True, ())
DEAD = (0, False, ())
FAMILY = (LEAF, DEAD, (0, True, (0, 1)))


class SureLine(unittest.TestCase):

    def slow_length(self, custom, family, found, heirs):
        """How many of the claims nothing by few deeds sets aside; and by how few deeds the next one is."""
        claims = line_of_claim(custom, grow(family))
        for number, claimant in enumerate(claims):
            least = []
            for later, (many, _) in found.items():
                founder = grow(later)
                ahead = any(at(founder, way).is_alive for way in claims[:number])
                if not ahead and at(founder, claimant).is_alive and heirs[later] != claimant:
                    least.append(many)
            if least:
                return number, min(least)
        return len(claims), None

    def test_against_all_futures_by_few_deeds(self):
        asides = 0
        for custom, family, most, found, heirs in CASES:
            claims = line_of_claim(custom, grow(family))
            many, least = self.slow_length(custom, family, found, heirs)
            told = sure_line(custom, family, 10)
            self.assertEqual(told, claims[:len(told)])
            self.assertLessEqual(len(told), many)
            aside = set_aside(custom, family, 10)
            if len(told) == len(claims) or len(told) == 10:
                self.assertIsNone(aside)
                continue
            asides += 1
            next_one = claims[len(told)]
            terms = tuple((way, "dead") for way in told) + ((next_one, "lives"),)
            self.assertEqual(aside[0], fewest(custom, family, ("another", next_one), terms))
            self.assertIs(fits(custom, family, ("another", next_one), terms, aside[1]), True)
            self.assertEqual(deeds_to(family, aside[1]), aside[0])
            self.assertEqual(short(aside[1]), aside[1])
            if many == len(told):
                self.assertEqual(aside[0], least)
            else:
                self.assertGreater(aside[0], most)
        self.assertGreater(asides, 5)

    def test_the_first_ones(self):
        for custom, family, _, _, _ in CASES:
            told = sure_line(custom, family, 10)
            for many in range(1, 10):
                self.assertEqual(sure_line(custom, family, many), told[:many])
                if len(told) >= many:
                    self.assertIsNone(set_aside(custom, family, many))
                else:
                    self.assertEqual(set_aside(custom, family, many), set_aside(custom, family, 10))

    def test_by_hand(self):
        pair = (LEAF, (0, True, (0, 0)))
        # the founder, and the elder child, whatever comes; a child of that one comes ahead of the younger child
        self.assertEqual(sure_line(ELDEST, pair, 10), ((), (0,)))
        self.assertEqual(set_aside(ELDEST, pair, 10)[0], 3)
        self.assertEqual(sure_line(ELDEST, pair, 1), ((),))
        self.assertEqual(set_aside(ELDEST, pair, 2), None)
        self.assertEqual(sure_line(YOUNGEST, pair, 3), ())
        self.assertEqual(set_aside(YOUNGEST, pair, 3)[0], 1)
        self.assertEqual(sure_line(NOBODY, pair, 3), ())
        self.assertIsNone(set_aside(NOBODY, pair, 3))
        self.assertEqual(sure_line(ELDEST, (DEAD,), 10), ())
        self.assertEqual(sure_line(ELDEST, (DEAD, LEAF, (0, False, (0, 0, 1, 0))), 10), ((2,),))

    def test_great_ones(self):
        family = doubled(99)
        self.assertEqual(sure_line(ELDEST, family, 10), tuple((0,) * level for level in range(10)))
        self.assertIsNone(set_aside(ELDEST, family, 10))
        dead = tuple((0, line[2] == (), line[2]) for line in chain(97)) + ((0, False, (96,) * 5),)
        # the living one at the end of a long line of dead ones; its child comes ahead of the next line
        self.assertEqual(sure_line(ELDEST, dead, 10), ((0,) + (0,) * 96,))
        self.assertEqual(set_aside(ELDEST, dead, 10)[0], 2)

    def test_more_than_300_ways(self):
        # members with the mark 1 lead on when dead, those with the mark 0 name themselves as long as they live
        nobody = ((0, "none"), (0, "none"))
        custom = (2, (False, True), (False, True), ELDEST[3],
                  ((nobody, ((1, "self"), (1, "self"))), (((0, "none"), (1, "line")), nobody)))
        family = [(0, True, ())] + [(1, False, (number,)) for number in range(96)] + [(1, False, (96,) * 5)]
        ways = tuple((place,) + (0,) * 96 for place in range(5))
        self.assertEqual(sure_line(custom, tuple(family), 10), ways)
        self.assertEqual(sure_line(custom, tuple(family), 4), ways[:4])
        self.assertIsNone(set_aside(custom, tuple(family), 10))
        youngest = custom[:3] + (YOUNGEST[3], custom[4])
        self.assertEqual(sure_line(youngest, tuple(family), 10), ways[::-1])
        # the last of ten lines ends below a living member, who can have a child
        close = (custom[4][0], (custom[4][1][0], custom[4][1][0]))
        led = youngest[:4] + (close,)
        family = [(0, True, ())] + [(1, False, (number,)) for number in range(31)] + [(1, True, (0,))]
        family += [(1, False, (number,)) for number in range(32, 62)] + [(1, False, (62,) + (31,) * 9)]
        ways = tuple((place,) + (0,) * 31 for place in reversed(range(10)))
        self.assertEqual(line_of_claim(led, grow(family)), ways)
        self.assertEqual(sure_line(led, tuple(family), 10), ways[:9])
        number, later = set_aside(led, tuple(family), 10)
        self.assertEqual((number, deeds_to(tuple(family), later)), (10, 10))
        self.assertEqual(heir_in(led, grow(later)), (0,) * 31 + (1,))
        terms = tuple((way, "dead") for way in ways)
        self.assertEqual(raised(bound_for, custom, tuple(family), ("none",), terms), ("TooGreat", 300))

    def test_wrong_numbers(self):
        for many in (None, True, False, 0, 11, -1, "1", (1,), 10 ** 900):
            for function in (sure_line, set_aside):
                self.assertEqual(raised(function, ELDEST, FAMILY, many), ("BadNumber", many))
                self.assertEqual(raised(function, ELDEST, chain(101), many), ("TooGreat", 100))


class Papers(unittest.TestCase):

    def asked(self, many=3):
        rng = random.Random(1900)
        for custom, family, _, found, _ in CASES:
            for _ in range(many):
                wish, terms = random_asked(rng, ways_of(grow(family)))
                yield custom, family, wish, terms, found

    def test_right_ones(self):
        told = {"future": 0, "bound": 0}
        for custom, family, wish, terms, _ in self.asked():
            number = fewest(custom, family, wish, terms)
            bound = bound_for(custom, family, wish, terms)
            self.assertEqual(bound[:2], ("bound", number))
            self.assertEqual(bound[2], newborn_costs(custom))
            self.assertEqual(check_chance(custom, family, wish, terms, bound), ("bound", number))
            paper = paper_for(custom, family, wish, terms)
            told[paper[0]] += 1
            if number is None:
                self.assertEqual(paper, bound)
            else:
                self.assertEqual(paper, ("future", future_for(custom, family, wish, terms)))
                self.assertEqual(check_chance(custom, family, wish, terms, paper), ("future", number))
        self.assertGreater(min(told.values()), 20)

    def test_larger_families(self):
        rng = random.Random(1901)
        for custom in customs(1902, 10, 2, 6) + big_customs(1903, 6):
            for family in small_families(1904, 3, most=40, marks=custom[0]):
                wish, terms = random_asked(rng, ways_of(grow(family)))
                number = fewest(custom, family, wish, terms)
                told = check_chance(custom, family, wish, terms, bound_for(custom, family, wish, terms))
                self.assertEqual(told, ("bound", number))

    def test_the_form_of_a_bound(self):
        for custom, family, wish, terms, _ in self.asked(1):
            _, _, newborn, shared, spine = bound_for(custom, family, wish, terms)
            self.assertEqual(len(newborn), len(custom[2]))
            self.assertEqual(len(shared), len(short(family)))
            named = [way for way, _ in terms] + list(wish[1:])
            due = {()} | {way[:level] for way in named for level in range(len(way) + 1)}
            self.assertEqual([way for way, _ in spine], sorted(due))
            for scale in shared + tuple(scale for _, scale in spine):
                self.assertEqual(len(scale), len(custom[2]))
                self.assertTrue(all(isinstance(pair, tuple) and len(pair) == 2 for pair in scale))

    def numbers_in(self, paper):
        """The places of all numbers of a bound, by its parts."""
        for rank in range(len(paper[2])):
            yield "new", (2, rank)
        for line, scale in enumerate(paper[3]):
            for rank in range(len(scale)):
                for side in (0, 1):
                    yield "shared", (3, line, rank, side)
        for place, (_, scale) in enumerate(paper[4]):
            for rank in range(len(scale)):
                for side in (0, 1):
                    yield "spine", (4, place, 1, rank, side)
        yield "number", (1,)

    def changed(self, value, place, change):
        if not place:
            return change(value)
        at_place = place[0]
        return value[:at_place] + (self.changed(value[at_place], place[1:], change),) + value[at_place + 1:]

    def slow_word(self, custom, family, wish, terms, paper):
        """What is told of a bound of the right form, by the words of [56]."""
        _, number, newborn, shared, spine = paper
        family = short(family)
        spine = dict(spine)
        terms = dict(terms)
        rows = self.rows(custom, {(0, False): 0}, newborn, wish)
        for (stand, _), cost in rows.items():
            for pair in custom[4]:
                for life, cells in enumerate(pair):
                    if self.is_above(newborn[cells[stand][0]], cost + 2 - life):
                        return "new"
        for line, (mark, is_alive, children) in enumerate(family):
            scales = [shared[child] for child in children]
            told = self.sums(custom, (mark, is_alive), scales, newborn, wish, None, False)
            if any(self.is_above(shared[line][rank][0 if side else 1], cost) for (rank, side), cost in told.items()):
                return "shared"
        for way, scale in spine.items():
            told = self.spine_sums(custom, family, wish, terms, newborn, shared, spine, way)
            if any(self.is_above(scale[rank][0 if side else 1], cost) for (rank, side), cost in told.items()):
                return "spine"
        for rank, (wanted, other) in enumerate(spine[()]):
            fits = {"heir": [wanted], "newborn": [wanted], "another": [other],
                    "none": [] if custom[2][rank] else [other]}[wish[0]]
            if any(cost is not None and self.is_above(number, cost) for cost in fits):
                return "number"
        return None

    def is_above(self, number, cost):
        return number is None or number > cost

    def rows(self, custom, row, newborn, wish):
        """Behind any newborn children, by going on until nothing gets less."""
        row = dict(row)
        changes = True
        while changes:
            changes = False
            for (stand, side), cost in list(row.items()):
                for rank, more in enumerate(newborn):
                    if more is None:
                        continue
                    behind, keep = custom[3][stand][rank]
                    key = (behind, {"old": side, "none": False,
                                    "new": wish == ("newborn",) and custom[2][rank]}[keep])
                    if cost + more < row.get(key, cost + more + 1):
                        row[key] = cost + more
                        changes = True
        return row

    def sums(self, custom, own, scales, newborn, wish, word, is_wanted):
        row = {(0, False): 0}
        for scale in scales:
            behind_child = {}
            for (stand, held), cost in row.items():
                for rank, pair in enumerate(scale):
                    for side, more in zip((True, False), pair):
                        if more is not None:
                            behind, keep = custom[3][stand][rank]
                            key = (behind, {"old": held, "new": side, "none": False}[keep])
                            behind_child[key] = min(behind_child.get(key, cost + more), cost + more)
            row = behind_child
        mark, is_alive = own
        if is_alive:
            row = self.rows(custom, row, newborn, wish)
        told = {}
        for (stand, held), cost in row.items():
            for life in (True, False):
                if (life and not is_alive) or (word == "lives" and not life) or (word == "dead" and life):
                    continue
                rank, pick = custom[4][mark][int(life)][stand]
                key = (rank, is_wanted if pick == "self" else held if pick == "line" else False)
                more = cost + (1 if is_alive and not life else 0)
                told[key] = min(told.get(key, more), more)
        return told

    def spine_sums(self, custom, family, wish, terms, newborn, shared, spine, way):
        founder = grow(family)
        member = at(founder, way)
        if terms.get(way) == "quiet":
            for other, word in terms.items():
                if other[:len(way)] == way and word != "quiet":
                    if at(founder, other).is_alive != (word == "lives"):
                        return {}
            line = grow(tell(member))
            rank = self.rank(custom, line)
            heir = heir_in(custom, line)
            return {(rank, heir is not None and wish[1:] == (way + heir,)): 0}
        numbers = {line: place for place, line in enumerate(self.lines(family))}
        scales = []
        for place, child in enumerate(member.children):
            child_way = way + (place,)
            scales.append(spine[child_way] if child_way in spine else shared[numbers[tell(child)]])
        return self.sums(custom, (member.mark, member.is_alive), scales, newborn, wish, terms.get(way),
                         wish[1:] == (way,))

    def lines(self, family):
        return [short(family[:place + 1]) for place in range(len(family))]

    def rank(self, custom, member):
        from tests.helper import read_member
        return read_member(custom, member)[0]

    def test_one_number_raised_or_lowered(self):
        rng = random.Random(1905)
        told = {}
        for custom, family, wish, terms, _ in self.asked(2):
            paper = bound_for(custom, family, wish, terms)
            for word, place in rng.sample(sorted(self.numbers_in(paper)), min(20, len(list(self.numbers_in(paper))))):
                for change in (lambda value: None, lambda value: 0 if value is None else value + 1,
                               lambda value: max(0, (value or 0) - 1), lambda value: 10 ** 900):
                    other = self.changed(paper, place, change)
                    due = self.slow_word(custom, family, wish, terms, other)
                    result = raised(check_chance, custom, family, wish, terms, other)
                    self.assertEqual(result, None if due is None else ("BadPaper", due))
                    told[due] = told.get(due, 0) + 1
        self.assertEqual(set(told), {None, "new", "shared", "spine", "number"})

    def test_lower_numbers_are_right(self):
        for custom, family, wish, terms, _ in self.asked(1):
            paper = bound_for(custom, family, wish, terms)
            scale = ((0, 0),) * len(custom[2])
            low = ("bound", 0, (0,) * len(custom[2]), (scale,) * len(paper[3]),
                   tuple((way, scale) for way, _ in paper[4]))
            self.assertEqual(check_chance(custom, family, wish, terms, low), ("bound", 0))

    def test_form_of_bounds(self):
        rng = random.Random(1906)
        for custom, family, wish, terms, _ in list(self.asked(1))[::2]:
            paper = bound_for(custom, family, wish, terms)
            wrong = [paper[:4], paper + (0,), list(paper), ("Bound",) + paper[1:], (None,) + paper[1:]]
            for word, place in rng.sample(sorted(self.numbers_in(paper)), 5):
                wrong += [self.changed(paper, place, lambda value, other=other: other)
                          for other in (-1, True, False, "0", (0,), [])]
            for place in ((2,), (3,), (4,), (3, 0), (4, 0, 1), (3, 0, 0), (4, 0, 1, 0)):
                wrong += [self.changed(paper, place, change) for change in (
                    list, lambda value: value[:-1], lambda value: value + value[:1], lambda value: None)]
            wrong += [self.changed(paper, (4, 0, 0), lambda value, other=other: other)
                      for other in (None, [], (0,), (True,), "")]
            if len(paper[4]) > 1:
                wrong.append(paper[:4] + (paper[4][::-1],))
                way = paper[4][-1][0]
                if way[-1] < 2:
                    wrong.append(self.changed(paper, (4, len(paper[4]) - 1, 0),
                                              lambda value: value[:-1] + (value[-1] == 1,)))
            for other in wrong:
                self.assertEqual(raised(check_chance, custom, family, wish, terms, other), ("BadPaper", "form"))

    def test_form(self):
        for paper in (None, 0, "future", (), [], ("future",), ("bound",), ["future", FAMILY], ("future", None),
                      ("future", ()), ("future", ((1, True, ()),)), ("future", FAMILY, 0), ("Future", FAMILY),
                      (FAMILY,), (["future"], FAMILY), (None, FAMILY), ("bound", 0), ("future", ((0, 1, ()),))):
            self.assertEqual(raised(check_chance, ELDEST, FAMILY, ("none",), (), paper), ("BadPaper", "form"))

    def test_futures_that_are_bent(self):
        told = {}
        for custom, family, wish, terms, found in self.asked(4):
            others = sorted(found)[::7] + small_families(1907, 2, most=6, marks=custom[0])
            for later in others:
                due = self.future_word(custom, family, wish, terms, later)
                told[due] = told.get(due, 0) + 1
                paper = ("future", later)
                if due is None:
                    self.assertEqual(check_chance(custom, family, wish, terms, paper),
                                     ("future", deeds_to(family, later)))
                else:
                    self.assertEqual(raised(check_chance, custom, family, wish, terms, paper), ("BadPaper", due))
        self.assertEqual(set(told), {None, "later", "terms", "wish"})

    def future_word(self, custom, family, wish, terms, later):
        from tests.test_chances import are_kept, is_wished
        from tests.test_futures import slow_is_future
        if not slow_is_future(family, later):
            return "later"
        if not are_kept(family, terms, later):
            return "terms"
        return None if is_wished(wish, heir_in(custom, grow(later)), ways_of(grow(family))) else "wish"

    def test_futures_of_any_number_of_members(self):
        great = doubled(300)
        self.assertEqual(check_chance(ELDEST, (LEAF,), ("heir", ()), (), ("future", great)),
                         ("future", size_of(great) - 1))
        self.assertEqual(raised(check_chance, ELDEST, (LEAF,), ("newborn",), (), ("future", great)),
                         ("BadPaper", "wish"))

    def test_great_ones(self):
        family = doubled(99)
        for wish in (("none",), ("newborn",), ("heir", (0, 1, 0)), ("another", ())):
            number = fewest(ELDEST, family, wish)
            self.assertEqual(check_chance(ELDEST, family, wish, (), bound_for(ELDEST, family, wish)),
                             ("bound", number))
            self.assertEqual(check_chance(ELDEST, family, wish, (), paper_for(ELDEST, family, wish)),
                             ("future", number))

    def test_errors_come_in_their_order(self):
        family = chain(99) + ((0, True, (98,) * 4),)
        terms = tuple(((place,) + (0,) * 98, "lives") for place in range(4))
        for function, more in ((paper_for, ()), (bound_for, ()), (check_chance, (None,))):
            self.assertEqual(raised(function, None, None, None, None, *more), ("BadCustom", "form"))
            self.assertEqual(raised(function, ELDEST, None, None, None, *more), ("BadFamily", None))
            self.assertEqual(raised(function, ELDEST, chain(101), None, None, *more), ("TooGreat", 100))
            self.assertEqual(raised(function, ELDEST, family, None, None, *more), ("BadWish", "form"))
            self.assertEqual(raised(function, ELDEST, family, ("heir", (9,)), None, *more), ("BadWish", "way"))
            self.assertEqual(raised(function, ELDEST, family, ("none",), terms + (0,), *more), ("BadTerms", 4))
            self.assertEqual(raised(function, ELDEST, family, ("none",), terms, *more), ("TooGreat", 300))
        self.assertEqual(raised(check_chance, ELDEST, family, ("none",), terms[:3], None), ("BadPaper", "form"))


if __name__ == "__main__":
    unittest.main()
