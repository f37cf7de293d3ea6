"""heirlines.sentences: point [50]"""

import random
import unittest

from heirlines.alike import are_alike
from heirlines.sentences import case_against, follows, holds_always, holds_in
from heirlines.shorts import short
from heirlines.views import view_in, views
from tests.helper import (ELDEST, NOBODY, YOUNGEST, all_families, big_customs, customs, doubled, raised, size_of,
                          small_families)

WORDS = ("none", "first", "second", "same", "above", "below", "elder", "younger")
LEAF = (0, True, ())
PAIR = (LEAF, (0, True, (0,)))
SAME = ("or", ("relation", "none"), ("relation", "same"))


def slow_holds(sentence, view):
    word, *rest = sentence
    if word == "relation":
        return view[0] == rest[0]
    if word == "mark":
        return view[1 if rest[0] == "first" else 2] == rest[1]
    if word == "founder":
        return view[3 if rest[0] == "first" else 4]
    told = [slow_holds(one, view) for one in rest]
    return {"not": not told[0], "and": all(told), "or": any(told)}[word]


def random_sentence(rng, depth=4):
    words = ["relation", "mark", "founder"] + ["not", "and", "or"] * (depth > 0)
    word = rng.choice(words)
    if word == "relation":
        return (word, rng.choice(WORDS))
    if word == "mark":
        return (word, rng.choice(("first", "second")), rng.randrange(3))
    if word == "founder":
        return (word, rng.choice(("first", "second")))
    many = 1 if word == "not" else 2
    return (word,) + tuple(random_sentence(rng, depth - 1) for _ in range(many))


def nested(depth, inner=("founder", "first")):
    """A sentence of so many parts, one in another."""
    for _ in range(depth - 1):
        inner = ("not", inner)
    return inner


def wide(many, last=("founder", "first")):
    """A sentence of so many parts; the odd numbers alone come without "not"."""
    parts = [("relation", "none")] * ((many + 1) // 2 - 1) + [last]
    if many % 2 == 0:
        parts[0] = ("not", parts[0])
    while len(parts) > 1:
        parts = [("and", parts[at], parts[at + 1]) if at + 1 < len(parts) else parts[at]
                 for at in range(0, len(parts), 2)]
    return parts[0]


def count(sentence):
    return 1 + sum(count(part) for part in sentence[1:] if isinstance(part, tuple))


class Holds(unittest.TestCase):

    def test_in_families(self):
        rng = random.Random(1500)
        for one, two in list(zip(customs(1501, 30, 3, 4), customs(1502, 30, 3, 4))) + list(
                zip(big_customs(1503, 10), big_customs(1504, 10))):
            for family in small_families(1505, 10, most=20):
                view = view_in(one, two, family)
                sentence = random_sentence(rng)
                self.assertIs(holds_in(one, two, sentence, family), slow_holds(sentence, view))

    def test_each_kind(self):
        told = {("relation", "above"): True, ("relation", "below"): False, ("mark", "first", 0): True,
                ("mark", "second", 1): False, ("founder", "first"): True, ("founder", "second"): False}
        for sentence, is_so in told.items():
            self.assertIs(holds_in(ELDEST, YOUNGEST, sentence, PAIR), is_so)
            self.assertIs(holds_in(ELDEST, YOUNGEST, ("not", sentence), PAIR), not is_so)
            for other, is_other in told.items():
                self.assertIs(holds_in(ELDEST, YOUNGEST, ("and", sentence, other), PAIR), is_so and is_other)
                self.assertIs(holds_in(ELDEST, YOUNGEST, ("or", sentence, other), PAIR), is_so or is_other)
        self.assertIs(holds_in(NOBODY, YOUNGEST, ("mark", "first", 0), PAIR), False)
        self.assertIs(holds_in(NOBODY, YOUNGEST, ("founder", "first"), PAIR), False)
        self.assertIs(holds_in(ELDEST, YOUNGEST, ("founder", "first"), doubled(300)), True)

    def test_always(self):
        rng = random.Random(1506)
        told = {True: 0, False: 0}
        for one, two in list(zip(customs(1507, 40, 2, 4), customs(1508, 40, 2, 4))) + [(ELDEST, YOUNGEST)] * 3:
            shown = views(one, two)
            for _ in range(6):
                sentence = random_sentence(rng)
                if rng.random() < 0.4:
                    sentence = ("or", sentence, ("not", random_sentence(rng, 0)))
                against = [view for view in shown if not slow_holds(sentence, view)]
                told[not against] += 1
                self.assertIs(holds_always(one, two, sentence), not against)
                family = case_against(one, two, sentence)
                self.assertIs(family is None, not against)
                if family is not None:
                    self.assertEqual(short(family), family)
                    self.assertIs(holds_in(one, two, sentence, family), False)
                far = random_sentence(rng)
                is_so = all(slow_holds(far, view) for view in shown if slow_holds(sentence, view))
                self.assertIs(follows(one, two, sentence, far), is_so)
                self.assertIs(follows(one, two, sentence, ("or", far, sentence)), True)
        self.assertGreater(min(told.values()), 30)

    def test_cases_are_least(self):
        rng = random.Random(1509)
        families = all_families(4, 1)
        for one, two in list(zip(customs(1510, 10, 1, 4), customs(1511, 10, 1, 4))) + [(ELDEST, YOUNGEST)]:
            shown = [(size_of(family), view_in(one, two, family)) for family in families]
            for _ in range(15):
                sentence = random_sentence(rng)
                sizes = [size for size, view in shown if not slow_holds(sentence, view)]
                family = case_against(one, two, sentence)
                if sizes:
                    self.assertEqual(size_of(family), min(sizes))
                elif family is not None:
                    self.assertGreater(size_of(family), 4)

    def test_alike_ones(self):
        for one, two in zip(customs(1512, 40, 2, 3), customs(1513, 40, 2, 3)):
            self.assertIs(holds_always(one, two, SAME), are_alike(one, two))
            self.assertIs(holds_always(one, one, SAME), True)


class Wrong(unittest.TestCase):

    def check(self, sentence, place):
        told = None if place is None else ("BadSentence", place)
        self.assertEqual(raised(holds_in, ELDEST, YOUNGEST, sentence, PAIR), told)
        self.assertEqual(raised(holds_in, ELDEST, YOUNGEST, sentence, PAIR if place is None else None), told)
        self.assertEqual(raised(holds_always, ELDEST, YOUNGEST, sentence), told)
        self.assertEqual(raised(case_against, ELDEST, YOUNGEST, sentence), told)
        self.assertEqual(raised(follows, ELDEST, YOUNGEST, sentence, SAME if place is None else None), told)
        self.assertEqual(raised(follows, ELDEST, YOUNGEST, SAME, sentence), told)

    PARTS = (None, 0, True, "", "relation", [], {}, (), ("relation",), ("relation", "newborn"), ("relation", None),
             ("relation", ["none"]), ("relation", "none", "none"), ["relation", "none"], ("mark", "first"),
             ("mark", "third", 0), ("mark", "first", 3), ("mark", "first", -1), ("mark", "first", True),
             ("mark", "first", None), ("mark", 0, 0), ("mark", "second", 0, 0), ("founder",), ("founder", "none"),
             ("founder", "first", "second"), ("founder", None), ("not",), ("not", SAME, SAME), ("and", SAME),
             ("and", SAME, SAME, SAME), ("or",), ("or", SAME), ("xor", SAME, SAME), (["not"], SAME), (None, SAME),
             ("Not", SAME), (0,))

    def test_parts_that_are_none(self):
        for part in self.PARTS:
            self.check(part, ())
            self.check(("not", part), (1,))
            self.check(("and", SAME, part), (2,))
            self.check(("or", part, None), (1,))
            self.check(("and", ("or", SAME, ("not", part)), part), (1, 2, 1))
            self.check(("and", ("or", SAME, SAME), ("or", SAME, ("and", part, part))), (2, 2, 1))

    def test_each_ahead_of_its_own_parts(self):
        self.check(("and", ("not", None, None), None), (1,))
        self.check(("and", ("not", ("not", None)), None), (1, 1, 1))
        self.check(("and", None), ())
        self.check(("relation", ("not", None)), ())

    def test_60_parts_and_61(self):
        for many in (57, 58, 59, 60):
            self.assertEqual(count(wide(many)), many)
            self.check(wide(many), None)
        for many in (61, 62, 63, 80):
            self.assertEqual(count(wide(many)), many)
            self.check(wide(many), ())
        # a wrong part ahead of the 61st is told; the 61st itself isn't looked at
        self.check(("and", ("not", None), wide(70)), (1, 1))
        self.check(("and", wide(58), None), (2,))
        self.check(("and", wide(59), None), ())
        self.check(("and", wide(59), ("relation", "none")), ())
        self.check(("and", wide(58), ("relation", "none")), None)

    def test_20_deep_and_21(self):
        self.check(nested(20), None)
        self.check(nested(21), ())
        self.check(nested(55), ())
        self.check(nested(20, None), (1,) * 19)
        self.check(nested(21, None), ())
        self.check(("and", nested(19), ("or", SAME, nested(18))), None)
        self.check(("and", nested(19), ("or", SAME, nested(19))), ())
        self.check(("and", ("not", None), nested(30)), (1, 1))
        self.check(("and", nested(30), None), ())
        # what is deep comes ahead of what stands to the right of it
        self.check(("and", nested(20), None), ())
        self.check(("and", nested(19), None), (2,))

    def test_the_order_of_the_arguments(self):
        self.assertEqual(raised(follows, None, None, None, None), ("BadCustom", "form"))
        self.assertEqual(raised(follows, ELDEST, customs(1514, 1, 2)[0], None, None), ("BadMarks", 2))
        self.assertEqual(raised(follows, ELDEST, YOUNGEST, ("not", None), None), ("BadSentence", (1,)))
        self.assertEqual(raised(follows, ELDEST, YOUNGEST, SAME, ("and", SAME, None)), ("BadSentence", (2,)))
        self.assertEqual(raised(holds_in, ELDEST, YOUNGEST, SAME, ((1, True, ()),)), ("BadFamily", 0))


if __name__ == "__main__":
    unittest.main()
