"""heirlines.schemes and joining: points [75] and [76]"""

import itertools
import random
import unittest

from heirlines.customs import is_custom, renumbered
from heirlines.joining import check_joining, joined, joining_paper, joins, unjoined_family
from heirlines.joinsearch import JoinSearch
from heirlines.least import least_custom
from heirlines.least import size_of as least_size
from heirlines.ruled import custom_of
from heirlines.schemes import heir_by_scheme, need_scheme
from heirlines.shorts import read_alike, short
from tests.helper import (ELDEST, NOBODY, YOUNGEST, all_families, all_rules, at, big_custom, big_customs, chain, copied, customs, doubled,
                          great_family, grow, heir_in, raised, random_custom, random_rule, read_member, relation, retold,
                          size_of,
                          small_families, tell, with_members, with_place_changed, with_states_twice, with_turns)
from tests.interface_texts import SCHEME

LEAF = (0, True, ())
RELATIONS = ("none", "first", "second", "same", "above", "below", "elder", "younger")
ALL_PICKS = ("first", "second", "none")
FAMILIES = {1: all_families(5, 1), 2: all_families(3, 2)}
FIRST = ("none", "first", "none") + ("first",) * 5
SECOND = ("none", "none", "second", "first") + ("second",) * 4
WHOEVER = ("none", "first", "second", "first", "first", "first", "first", "first")
AGREED = ("none", "none", "none", "first") + ("none",) * 4


def random_scheme(rng):
    return ("none", rng.choice(("first", "none")), rng.choice(("second", "none")),
            rng.choice(("first", "none"))) + tuple(rng.choice(ALL_PICKS) for _ in range(4))


def picked(scheme, custom, other, founder):
    """The heir by the scheme, member by member."""
    heir, far_heir = heir_in(custom, founder), heir_in(other, founder)
    pick = dict(zip(RELATIONS, scheme))[relation(heir, far_heir)]
    return {"first": heir, "second": far_heir, "none": None}[pick]


def below(heir, way):
    """Where an heir is from a member, None if it isn't in the line."""
    return heir[len(way):] if heir is not None and heir[:len(way)] == way else None


def shows(scheme, custom, other, witness):
    """Whether a witness of few members is one, looked at member by member."""
    if witness[0] == "line":
        _, family, way = witness
        founder = grow(family)
        heir = below(picked(scheme, custom, other, founder), way)
        return heir is not None and heir != picked(scheme, custom, other, at(founder, way))
    _, family, way, far_family, far_way, many = witness
    heirs = []
    rows = []
    for lines, parent in ((family, way), (far_family, far_way)):
        founder = grow(lines)
        rows.append([tell(child) for child in at(founder, parent).children[:many]])
        assert len(rows[-1]) == many
        heirs.append(below(picked(scheme, custom, other, founder), parent))
    inside = all(heir is not None and heir and heir[0] < many for heir in heirs)
    return rows[0] == rows[1] and inside and heirs[0] != heirs[1]


def pairs(seed, many):
    """So many pairs of customs, some of them much alike, with a scheme."""
    rng = random.Random(seed)
    found = []
    for number in range(many):
        marks = rng.choice((1, 1, 2))
        if number % 3 == 0:
            custom, other = custom_of(random_rule(rng, marks, 2)), custom_of(random_rule(rng, marks, 2))
        elif number % 3 == 1:
            custom, other = big_custom(rng, marks, rng.randint(3, 5), 3), big_custom(rng, marks, 2, rng.randint(3, 5))
        else:
            custom, other = random_custom(rng, marks, 4), random_custom(rng, marks, 4)
        if rng.random() < 0.3:
            other = with_place_changed(custom, rng)
        found.append((random_scheme(rng), custom, other))
    return found


def sought(seed):
    """A scheme and two customs of as many stands as ranks, the second one perhaps much like the first one."""
    rng = random.Random(seed)
    many = rng.choice((3, 4, 5, 6, 8))
    custom = big_custom(rng, 1, many, many)
    other = with_place_changed(custom, rng) if rng.random() < 0.4 else big_custom(rng, 1, many, many)
    if rng.random() < 0.5:
        return ("none", "first", "second", "first") + (rng.choice(ALL_PICKS),) * 4, custom, other
    return random_scheme(rng), custom, other


class Everything(JoinSearch):
    """All states of three customs, whether they are joined or not."""

    def is_joined(self, line):
        return True


class Schemes(unittest.TestCase):

    def test_there_are_648(self):
        told = [scheme for scheme in itertools.product(ALL_PICKS, repeat=8) if raised(need_scheme, scheme) is None]
        self.assertEqual(len(told), 648)
        self.assertIs(need_scheme(SCHEME), SCHEME)

    def test_the_first_pick_that_cant_stand(self):
        for scheme in itertools.product(("first", "second", "none", "same"), repeat=4):
            whole = scheme + ("first", "none", None, "second")
            wrong = [number for number, pick in enumerate(whole)
                     if pick not in (("none",), ("first", "none"), ("second", "none"), ("first", "none"))[min(number, 3)]
                     and (number < 4 or pick not in ALL_PICKS)]
            self.assertEqual(raised(need_scheme, whole), ("BadSentence", wrong[0]))

    def test_heirs_by_hand(self):
        family = (LEAF, (0, False, (0, 0)))
        for scheme, heir in ((FIRST, (0,)), (SECOND, (1,)), (WHOEVER, (0,)), (AGREED, None)):
            self.assertEqual(heir_by_scheme(scheme, ELDEST, YOUNGEST, family), heir)
        for scheme, heir in ((FIRST, None), (SECOND, (1,)), (WHOEVER, (1,)), (AGREED, None)):
            self.assertEqual(heir_by_scheme(scheme, NOBODY, YOUNGEST, family), heir)
        self.assertEqual(heir_by_scheme(AGREED, ELDEST, YOUNGEST, (LEAF,)), ())

    def test_each_pick(self):
        seen = set()
        for number, (_, custom, other) in enumerate(pairs(7400, 90)):
            for family in FAMILIES[custom[0]][:90] + small_families(number, 20, 20, custom[0]):
                founder = grow(family)
                word = relation(heir_in(custom, founder), heir_in(other, founder))
                seen.add(word)
                scheme = random_scheme(random.Random(number))
                self.assertEqual(heir_by_scheme(scheme, custom, other, family), picked(scheme, custom, other, founder))
        self.assertEqual(seen, set(RELATIONS))

    def test_great_families(self):
        for family in (with_members(10 ** 60), doubled(190), chain(2000), great_family(7401, 1)):
            heirs = [heir_by_scheme(scheme, ELDEST, YOUNGEST, family) for scheme in (FIRST, SECOND)]
            self.assertEqual(heir_by_scheme(WHOEVER, ELDEST, YOUNGEST, family), heirs[0])
            self.assertEqual(heir_by_scheme(FIRST, YOUNGEST, ELDEST, family), heirs[1])
        self.assertEqual(raised(heir_by_scheme, FIRST, ELDEST, ELDEST, with_members(10 ** 60 + 1)),
                         ("BadFamily", None))


class Joined(unittest.TestCase):

    def test_against_small_families(self):
        sorts = {}
        for scheme, custom, other in pairs(7410, 250):
            told = raised(joined, scheme, custom, other)
            if told is not None:
                self.assertEqual(told, ("TooGreat", 8))
                self.assertEqual(raised(joining_paper, scheme, custom, other), told)
                continue
            third = joined(scheme, custom, other)
            paper = joining_paper(scheme, custom, other)
            sorts[paper[0]] = sorts.get(paper[0], 0) + 1
            if third is None:
                self.assertIs(check_joining(scheme, custom, other, paper), False)
                self.check_witness(scheme, custom, other, paper)
                continue
            self.assertEqual(paper, ("custom", third))
            self.assertIs(check_joining(scheme, custom, other, paper), True)
            self.assertIs(joins(scheme, custom, other, third), True)
            self.assertIsNone(unjoined_family(scheme, custom, other, third))
            self.assertTrue(is_custom(third))
            self.assertEqual(least_custom(third), third)
            for family in FAMILIES[custom[0]]:
                founder = grow(family)
                self.assertEqual(heir_in(third, founder), picked(scheme, custom, other, founder))
        self.assertTrue(all(sorts[sort] > 4 for sort in ("custom", "line", "row")), sorts)

    def check_witness(self, scheme, custom, other, paper):
        families = [item for item in paper[1:] if isinstance(item, tuple) and item and isinstance(item[0], tuple)]
        for family in families:
            self.assertEqual(short(family), family)
        if all(size_of(family) < 2000 for family in families):
            self.assertTrue(shows(scheme, custom, other, paper))

    def test_none_if_small_families_have_a_witness(self):
        """All witnesses of sort "line" in small families: where there is one, none joins the two."""
        many = 0
        for scheme, custom, other in pairs(7411, 100):
            found = False
            for family in FAMILIES[custom[0]]:
                founder = grow(family)
                heir = picked(scheme, custom, other, founder)
                for level in range(1, len(heir or ()) + 1):
                    line = at(founder, heir[:level])
                    found = found or picked(scheme, custom, other, line) != heir[level:]
            if found:
                many += 1
                self.assertIsNone(joined(scheme, custom, other))
        self.assertGreater(many, 3)

    def test_alike_customs_are_joined_by_each_of_them(self):
        rng = random.Random(7412)
        for custom in customs(7413, 20, 1, 5) + customs(7414, 10, 2, 4) + [ELDEST, YOUNGEST, NOBODY]:
            other = renumbered(custom, *with_turns(custom, rng))
            for _ in range(5):
                scheme = ("none", "first", "second", "first") + tuple(rng.choice(ALL_PICKS) for _ in range(4))
                self.assertEqual(joined(scheme, custom, other), least_custom(custom))
                self.assertTrue(joins(scheme, custom, other, custom))
                self.assertTrue(joins(scheme, custom, other, other))

    def test_one_of_the_two(self):
        for custom, other in itertools.permutations(customs(7415, 6, 1, 4) + [ELDEST, YOUNGEST], 2):
            self.assertEqual(joined(FIRST, custom, other), least_custom(custom))
            self.assertEqual(joined(SECOND, custom, other), least_custom(other))

    def test_by_hand(self):
        # whoever both name, and nobody else
        third = joined(AGREED, ELDEST, YOUNGEST)
        for family, heir in (((LEAF,), ()), ((LEAF, (0, True, (0,))), None), ((LEAF, (0, False, (0,))), (0,)),
                             ((LEAF, (0, False, (0, 0))), None)):
            self.assertEqual(heir_in(third, grow(family)), heir)
        self.assertEqual(joined(WHOEVER, ELDEST, NOBODY), least_custom(ELDEST))
        self.assertEqual(joined(AGREED, ELDEST, NOBODY), least_custom(NOBODY))

    def test_witnesses_by_hand(self):
        # the eldest's where the two agree or the youngest's is younger, the youngest's where it is below
        scheme = ("none", "first", "second", "first", "second", "first", "first", "first")
        family = (LEAF, (0, True, (0,)), (0, False, (0, 1)))
        self.assertEqual(heir_by_scheme(scheme, ELDEST, YOUNGEST, family), (0,))
        self.assertEqual(heir_by_scheme(scheme, ELDEST, YOUNGEST, (LEAF, (0, True, (0,)))), (0,))
        turned = (LEAF, (0, True, (0,)), (0, False, (1, 0)))
        # the eldest child has a child, who is the heir if that line is the family
        self.assertEqual(heir_by_scheme(scheme, ELDEST, YOUNGEST, turned), (0,))
        self.assertIs(check_joining(scheme, ELDEST, YOUNGEST, ("line", turned, (0,))), False)
        self.assertEqual(raised(check_joining, scheme, ELDEST, YOUNGEST, ("line", turned, (1,))), ("BadPaper", "line"))
        self.assertIsNone(joined(scheme, ELDEST, YOUNGEST))
        # of two children the eldest below a dead founder, the youngest below a living one
        dead, living = (LEAF, (0, False, (0, 0))), (LEAF, (0, True, (0, 0)))
        self.assertIs(check_joining(scheme, ELDEST, YOUNGEST, ("row", dead, (), living, (), 2)), False)
        for paper in (("row", dead, (), living, (), 1), ("row", dead, (), dead, (), 2),
                      ("row", dead, (), (LEAF, (0, False, ()), (0, True, (1, 0))), (), 2),
                      ("row", living, (), dead, (), 1)):
            self.assertEqual(raised(check_joining, scheme, ELDEST, YOUNGEST, paper), ("BadPaper", "row"))

    def test_rows_whose_heirs_are_elsewhere(self):
        dead, living, nobody = (LEAF, (0, False, (0, 0))), (LEAF, (0, True, (0, 0))), ((0, False, ()), (0, False, (0, 0)))
        # by the first custom the founder himself, a child, a child of another one, or nobody
        below = (LEAF, dead[1], (0, False, (1, 0)))
        for family, way, other, other_way in ((dead, (), living, ()), (living, (), dead, ()), (below, (0,), below, (0,)),
                                              (dead, (), below, (0,)), (nobody, (), nobody, ())):
            self.assertEqual(raised(check_joining, FIRST, ELDEST, YOUNGEST, ("row", family, way, other, other_way, 2)),
                             ("BadPaper", "row"))
        # nobody in one of the two, as none of both is picked there
        scheme = WHOEVER[:4] + ("none",) + WHOEVER[5:]
        self.assertIsNone(heir_by_scheme(scheme, ELDEST, YOUNGEST, living))
        for papers in ((dead, living), (living, dead)):
            self.assertEqual(raised(check_joining, scheme, ELDEST, YOUNGEST, ("row", papers[0], (), papers[1], (), 2)),
                             ("BadPaper", "row"))

    def test_all_that_join_have_one_joined_custom(self):
        rng = random.Random(7416)
        for scheme, custom, other in pairs(7417, 40):
            if raised(joined, scheme, custom, other) is not None or joined(scheme, custom, other) is None:
                continue
            third = joined(scheme, custom, other)
            twin = with_states_twice(third, rng) if max(len(third[1]), len(third[2])) < 8 else third
            twin = renumbered(twin, *with_turns(twin, rng))
            self.assertIs(joins(scheme, custom, other, twin), True)
            self.assertIs(check_joining(scheme, custom, other, ("custom", twin)), True)
            self.assertEqual(joined(scheme, renumbered(custom, *with_turns(custom, rng)), other), third)

    def test_eight_stands_or_ranks(self):
        found = set()
        for custom in big_customs(7419, 60, 1) + big_customs(7418, 60, 1, 5, 8):
            stands, ranks = least_size(custom)
            if (stands, ranks) not in found and 8 in (stands, ranks):
                found.add((stands, ranks))
                self.assertEqual(joined(FIRST, custom, ELDEST), least_custom(custom))
                self.assertEqual(joined(SECOND, ELDEST, custom), least_custom(custom))
        self.assertTrue({8} in [{stands, ranks} for stands, ranks in found], found)
        self.assertTrue(any(stands < 8 for stands, _ in found) and any(ranks < 8 for _, ranks in found), found)

    def test_too_great(self):
        # more than 8 stands, more than 8 ranks, or both
        for seed in (281, 311, 502, 597, 727):
            scheme, custom, other = sought(seed)
            self.assertEqual(raised(joined, scheme, custom, other), ("TooGreat", 8))
            self.assertEqual(raised(joining_paper, scheme, custom, other), ("TooGreat", 8))
            # there is no witness, so one that joins is only too great to be told
            self.assertFalse(joins(scheme, custom, other, custom))

    def test_rows_alone(self):
        """No line has two heirs there, and no pair of ranks has the numbers of such a pair of stands."""
        for seed in (1389, 1871):
            scheme, custom, other = sought(seed)
            paper = joining_paper(scheme, custom, other)
            self.assertEqual(paper[0], "row")
            self.assertTrue(shows(scheme, custom, other, paper))
            self.assertIsNone(joined(scheme, custom, other))


def state_of(told, founder):
    """The ranks by three customs, the relation of the first two, and which of these the third one's claimant is."""
    (rank, first), (far_rank, second), (last_rank, third) = [read_member(custom, founder) for custom in told]
    sames = tuple(third is not None and third == one for one in (first, second))
    return (rank, far_rank, relation(first, second)), last_rank, sames


class Joins(unittest.TestCase):

    def test_least_families_against_small_ones(self):
        rng = random.Random(7420)
        found = {True: 0, False: 0}
        for scheme, custom, other in pairs(7421, 120):
            third = rng.choice((custom, other, random_custom(rng, custom[0], 3)))
            if raised(joined, scheme, custom, other) is None and joined(scheme, custom, other) is not None:
                third = with_place_changed(joined(scheme, custom, other), rng)
            family = unjoined_family(scheme, custom, other, third)
            self.assertIs(joins(scheme, custom, other, third), family is None)
            small = [one for one in FAMILIES[custom[0]]
                     if heir_in(third, grow(one)) != picked(scheme, custom, other, grow(one))]
            found[family is None] += 1
            if family is None:
                self.assertEqual(small, [])
                continue
            self.assertEqual(short(family), family)
            most = 5 if custom[0] == 1 else 3
            self.assertEqual(size_of(family) if small else size_of(family) > most, size_of(small[0]) if small else True)
            if size_of(family) < 2000:
                self.assertNotEqual(heir_in(third, grow(family)), picked(scheme, custom, other, grow(family)))
        self.assertTrue(min(found.values()) > 10, found)

    def test_rules_against_small_families(self):
        """Rules differ in what is held of many children alone, so whose claimant it is has to be known."""
        rng = random.Random(7422)
        told = [custom_of(rule) for rule in all_rules()[::11]]
        parted = {}
        for number in range(400):
            custom, other, third = (rng.choice(told) for _ in range(3))
            scheme = rng.choice((FIRST, SECOND, WHOEVER, AGREED, random_scheme(rng)))
            third = (custom, other, third, third)[number % 4]
            family = unjoined_family(scheme, custom, other, third)
            least = next((one for one in FAMILIES[1]
                          if heir_in(third, grow(one)) != picked(scheme, custom, other, grow(one))), None)
            self.assertEqual(None if family is None else size_of(family), None if least is None else size_of(least))
            self.assertIs(joins(scheme, custom, other, third), family is None)
            many = None if family is None else size_of(family)
            parted[many] = parted.get(many, 0) + 1
            if family is not None:
                self.assertNotEqual(heir_in(third, grow(family)), picked(scheme, custom, other, grow(family)))
        self.assertTrue(min(parted[many] for many in (1, 2, 3, None)) > 5, parted)

    def test_states_of_three_customs(self):
        rng = random.Random(7423)
        founders = [grow(family) for family in FAMILIES[1]]
        for number in range(60):
            told = [big_custom(rng, 1, rng.randint(2, 5), rng.randint(2, 5)) for _ in range(3)]
            told[2] = (told[0], told[1], told[2], with_place_changed(told[0], rng))[number % 4]
            search = Everything(WHOEVER, *told)
            for founder in founders:
                self.assertIn(state_of(told, founder), search.lines)
            for state in search.lines:
                family = search.family(state)
                if size_of(family) < 300:
                    self.assertEqual(state_of(told, grow(family)), state)

    def test_held_claimants_by_hand(self):
        # living members are heirs themselves; dead ones lead on to the eldest, or the youngest
        eldest = custom_of((1, ("self",), (True,), (("eldest", ((0, "late"), (0, "self"))),)))
        youngest = custom_of((1, ("self",), (True,), (("youngest", ((0, "late"), (0, "self"))),)))
        family = (LEAF, (0, False, (0, 0)))
        for scheme, third in ((FIRST, youngest), (SECOND, eldest), (WHOEVER, youngest), (AGREED, eldest)):
            self.assertEqual(unjoined_family(scheme, eldest, youngest, third), family)
        self.assertIs(joins(WHOEVER, eldest, youngest, eldest), True)
        self.assertIs(joins(SECOND, eldest, youngest, youngest), True)

    def test_third_custom_by_hand(self):
        self.assertEqual(unjoined_family(WHOEVER, NOBODY, NOBODY, ELDEST), (LEAF,))
        self.assertEqual(unjoined_family(AGREED, ELDEST, YOUNGEST, ELDEST), (LEAF, (0, True, (0,))))
        self.assertIs(joins(FIRST, ELDEST, YOUNGEST, ELDEST), True)
        self.assertIs(joins(FIRST, ELDEST, YOUNGEST, YOUNGEST), False)

    def test_errors_of_the_third(self):
        two = (2,) + ELDEST[1:4] + (ELDEST[4] * 2,)
        for function in (joins, unjoined_family):
            self.assertEqual(raised(function, FIRST, ELDEST, ELDEST, two), ("BadMarks", 2))
            self.assertEqual(raised(function, FIRST, two, two, ELDEST), ("BadMarks", 1))
            self.assertEqual(raised(function, FIRST, two, ELDEST, None), ("BadMarks", 1))
            self.assertEqual(raised(function, FIRST, ELDEST, ELDEST, None), ("BadCustom", "form"))


class Papers(unittest.TestCase):

    def witnesses(self, sort, many):
        found = []
        for scheme, custom, other in pairs(7430, 400):
            if raised(joining_paper, scheme, custom, other) is None:
                paper = joining_paper(scheme, custom, other)
                if paper[0] == sort:
                    found.append((scheme, custom, other, paper))
        self.assertGreaterEqual(len(found), many)
        return found[:many]

    def test_lines(self):
        for scheme, custom, other, (_, family, way) in self.witnesses("line", 20):
            for one in FAMILIES[custom[0]][:150] + [family]:
                founder = grow(one)
                for place in [way, (), (0,), (0, 0), (1,), (0, 1), (1, 0)]:
                    try:
                        at(founder, place)
                    except IndexError:
                        self.assertEqual(raised(check_joining, scheme, custom, other, ("line", one, place)),
                                         ("BadPaper", "form"))
                        continue
                    told = raised(check_joining, scheme, custom, other, ("line", one, place))
                    self.assertEqual(told, None if shows(scheme, custom, other, ("line", one, place))
                                     else ("BadPaper", "line"))

    def test_rows(self):
        for scheme, custom, other, paper in self.witnesses("row", 12):
            _, family, way, far_family, far_way, many = paper
            self.assertIs(check_joining(scheme, custom, other, paper), False)
            turned = ("row", far_family, far_way, family, way, many)
            self.assertIs(check_joining(scheme, custom, other, turned), False)
            for one in (("row", family, way, family, way, many), ("row", far_family, far_way, far_family, far_way, many)):
                self.assertEqual(raised(check_joining, scheme, custom, other, one), ("BadPaper", "row"))
            most = min(len(at(grow(family), way).children), len(at(grow(far_family), far_way).children))
            for number in range(-1, most + 2):
                one = ("row", family, way, far_family, far_way, number)
                told = raised(check_joining, scheme, custom, other, one)
                if not 1 <= number <= most:
                    self.assertEqual(told, ("BadPaper", "form"))
                else:
                    self.assertEqual(told, None if shows(scheme, custom, other, one) else ("BadPaper", "row"))

    def test_rows_that_dont_read_alike(self):
        for scheme, custom, other, paper in self.witnesses("row", 10):
            _, family, way, far_family, far_way, many = paper
            founder = copied(grow(far_family))
            child = at(founder, far_way).children[0]
            child.children.append(copied(grow((LEAF,))))
            one = ("row", family, way, tell(founder), far_way, many)
            self.assertFalse(read_alike(far_family, tell(founder)))
            self.assertEqual(raised(check_joining, scheme, custom, other, one), ("BadPaper", "row"))

    def test_families_of_more_members_may_stand_there(self):
        great = with_members(10 ** 61)
        self.assertEqual(raised(check_joining, FIRST, ELDEST, ELDEST, ("line", great, ())), ("BadPaper", "line"))
        self.assertEqual(raised(check_joining, FIRST, ELDEST, ELDEST, ("row", great, (), great, (), 1)),
                         ("BadPaper", "row"))

    def test_families_needn_t_be_in_short_form(self):
        for number, (scheme, custom, other, (_, family, way)) in enumerate(self.witnesses("line", 5)):
            told = retold(family, number)
            if all(mark < custom[0] for mark, _, _ in told):
                self.assertIs(check_joining(scheme, custom, other, ("line", told, way)), False)


if __name__ == "__main__":
    unittest.main()
