"""heirlines.trees: TREES of points [71] and [72]"""

import random
import unittest

from heirlines.lettering import name_for
from heirlines.shorts import short
from heirlines.trees import need_tree, parse_tree, tree_text
from tests import looks
from tests.helper import altered, at, chain, grow, narrow, raised, retold, small_families, ways_of
from tests.test_texts import VOCABULARY

# a founder over a dead child with two of its own, and another child
FAMILY = ((0, True, ()), (2, True, ()), (1, False, (0, 1)), (0, True, (2, 1)))
NAMES = ("ann", "bob", "cat", "nobodyy", "eve")
TEXT = "0 ann 0 living\n1 bob 1 dead\n2 cat 0 living\n2 nobodyy 2 living\n1 eve 2 living"


def named(rng, family):
    """Unlike names for all members."""
    return tuple(rng.sample([name_for(number) for number in range(3000)], len(ways_of(grow(family)))))


class Trees(unittest.TestCase):

    def test_by_hand(self):
        self.assertEqual(need_tree(FAMILY, NAMES), (FAMILY, NAMES))
        self.assertEqual(tree_text(FAMILY, NAMES), TEXT)
        self.assertEqual(parse_tree(TEXT), (FAMILY, NAMES))
        self.assertEqual(tree_text(((2, False, ()),), ("z",)), "0 z 2 dead")

    def test_text_member_by_member(self):
        rng = random.Random(7200)
        for number, family in enumerate(small_families(7201, 60, 120)):
            names = named(rng, family)
            founder = grow(family)
            rows = []
            for way, name in zip(sorted(ways_of(founder)), names):
                member = at(founder, way)
                rows.append(f"{len(way)} {name} {member.mark} {'living' if member.is_alive else 'dead'}")
            self.assertEqual(tree_text(family, names), "\n".join(rows))
            self.assertEqual(tree_text(retold(family, number), names), "\n".join(rows))
            self.assertEqual(need_tree(retold(family, number), names), (short(family), names))
            self.assertEqual(parse_tree("\n".join(rows)), (short(family), names))

    def test_three_hundred_members(self):
        names = tuple(name_for(number) for number in range(301))
        for family in (chain(300), narrow(300), ((0, True, ()), (0, True, (0,) * 299))):
            text = tree_text(family, names[:300])
            self.assertEqual(parse_tree(text), (short(family), names[:300]))
            self.assertEqual(raised(parse_tree, text + "\n1 zzzz 0 living"), ("BadWords", 300, 0))
        self.assertEqual(raised(need_tree, chain(301), names), ("TooGreat", 300))
        self.assertEqual(raised(tree_text, narrow(10 ** 60), None), ("TooGreat", 300))

    def test_errors_in_their_order(self):
        for function in (need_tree, tree_text):
            self.assertEqual(raised(function, None, None), ("BadFamily", None))
            self.assertEqual(raised(function, FAMILY[:3] + ((3, True, ()),), None), ("BadFamily", 3))
            self.assertEqual(raised(function, FAMILY, None), ("BadName", None))
            self.assertEqual(raised(function, FAMILY, list(NAMES)), ("BadName", list(NAMES)))
            self.assertEqual(raised(function, FAMILY, NAMES[:4]), ("BadName", NAMES[:4]))
            self.assertEqual(raised(function, FAMILY, NAMES + ("f",)), ("BadName", NAMES + ("f",)))
            self.assertEqual(raised(function, FAMILY, ("ann", "bob", "ann", 0, "A")), ("BadName", "ann"))
            self.assertEqual(raised(function, FAMILY, ("ann", "bob", [0], "ann", "A")), ("BadName", [0]))
            self.assertEqual(raised(function, FAMILY, ("ann", "nobody", "ann", 0, "A")), ("BadName", "nobody"))

    def test_what_cant_be_read(self):
        rng = random.Random(7202)
        many = 0
        for family in small_families(7203, 60, 25):
            text = tree_text(family, named(rng, family))
            for _ in range(40):
                one = altered(text, rng, VOCABULARY)
                wrong = looks.first_wrong(looks.tree, one)
                told = raised(parse_tree, one)
                self.assertEqual(told, None if wrong is None else ("BadWords",) + wrong, one)
                many += wrong is not None
        self.assertGreater(many, 1200)

    def test_places_by_hand(self):
        for text, line, word in (("", 0, 0), ("1 a 0 living", 0, 0), ("0", 0, 1), ("0 a 0 living\n0 b 0 living", 1, 0),
                                 ("0 a 0 living\n2 b 0 living", 1, 0), ("0 a 0 living\n1 a 0 living", 1, 1),
                                 ("0 a 0 living\n1 b 3 living", 1, 2), ("0 a 0 living\n1 b 0 nobody", 1, 3),
                                 ("0 a 0 living\n1 b 0 living c", 1, 4), ("0 a 0 living\n", 1, 0),
                                 ("0 nobody 0 living", 0, 1), ("00 a 0 living", 0, 0), ("0 a 0 living\n01 b 0 dead", 1, 0),
                                 ("0 a 0 living\n1 b 0 dead\n2 c 0 dead\n1 d 0 dead\n3 e 0 dead", 4, 0)):
            self.assertEqual(raised(parse_tree, text), ("BadWords", line, word), text)
        for value in (None, 0, [], TEXT.encode(), (TEXT,)):
            self.assertEqual(raised(parse_tree, value), ("BadWords", None, None))


if __name__ == "__main__":
    unittest.main()
