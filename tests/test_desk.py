"""heirlines.desk: point [77]"""

import random
import unittest

from heirlines.desk import Desk
from heirlines.live import House
from heirlines.texts import custom_text
from heirlines.trees import tree_text
from tests.helper import ELDEST, YOUNGEST, chain, random_custom, raised, small_families
from tests.test_live import NAMED, Slow, state

LEAF = (0, True, ())
FAMILY = (LEAF, (0, True, (0,)), (0, False, (0, 1)))
NAMES = ("ann", "bob", "cat", "dan")
TREE = "0 ann 0 dead\n1 bob 0 living\n1 cat 0 living\n2 dan 0 living"
CUSTOM_LINES = custom_text(ELDEST).split("\n")
ODD = (None, 0, True, [], (), ["heir"], b"heir", {}, "", " ", "heir ", " heir", "Heir", "heir\n", "heir heir", "end",
       "more", "done", "no", "tree\ntree", "claim", "claim x", "claim 00", "claim 01", "claim -1", "claim 101",
       "claim 1000000000", "claim 1 1", "claim ", "undo 0", "undo x", "undo 1 1", "undo 01", "undo ", "again 0", "again x",
       "birth", "birth bob", "birth bob eve", "birth bob eve 0 0", "birth bob eve x", "birth bob eve 00", "birth bob eve 1",
       "birth bob eve ", "birth zed eve 0", "birth ann eve 0", "birth bob bob 0", "birth bob nobody 0", "birth bob Eve 0",
       "birth  eve 0", "death", "death zed", "death ann", "death bob bob", "death ", "late", "late 0", "late x death bob",
       "late 1 death bob", "late 00 death bob", "late 0 strike 0", "late 0 late 0 death bob", "late 0 heir",
       "late 0 death zed", "late 0 birth bob eve", "late 0 ", "late death bob", "strike", "strike 0", "strike x", "strike ",
       "record 0", "reigns 0", "tree 0", "nobody", "founder", "marks 1", "0 ann 0 dead", "undo 1000000000")


class Talks(unittest.TestCase):

    def talk(self, desk, *said):
        for line, due in said:
            self.assertEqual(desk.say(line), due, line)

    def begin(self, desk, custom=ELDEST, tree=TREE):
        lines = custom_text(custom).split("\n")
        self.talk(desk, ("custom", "more"), *[(line, "more") for line in lines[:-1]], (lines[-1], "done"))
        self.talk(desk, ("house", "more"), *[(line, "more") for line in tree.split("\n")], ("end", "done"))
        return desk

    def test_a_whole_talk(self):
        desk = Desk()
        self.assertIsNone(desk.house)
        self.begin(desk)
        self.talk(
            desk, ("heir", "bob"), ("claim 2", "bob cat"), ("claim 100", "bob cat dan"), ("claim 0", "nobody"),
            ("tree", TREE), ("record", "nothing"), ("reigns", "bob 1"), ("undo", "no"), ("again", "no"),
            ("birth bob eve 0", "done"), ("birth eve fay 0", "done"), ("death bob", "done"), ("heir", "eve"),
            ("record", "birth bob eve 0\nbirth eve fay 0\ndeath bob"), ("reigns", "bob 3\neve 1"),
            ("tree", "0 ann 0 dead\n1 bob 0 dead\n2 eve 0 living\n3 fay 0 living\n1 cat 0 living\n2 dan 0 living"),
            ("strike 0", "no"), ("strike 3", "no"), ("strike 1", "done"), ("record", "birth bob eve 0\ndeath bob"),
            ("late 1 birth bob gus 0", "done"), ("record", "birth bob eve 0\nbirth bob gus 0\ndeath bob"),
            ("late 0 birth bob hal 0", "done"), ("claim 3", "hal eve gus"), ("late 0 death bob", "no"),
            ("late 5 death cat", "no"), ("late 4 death hal", "done"), ("reigns", "bob 4\nhal 1\neve 1"),
            ("undo", "done"), ("undo 2", "done"), ("record", "birth bob eve 0\ndeath bob"), ("undo 5", "no"),
            ("again 4", "no"), ("again 3", "done"), ("reigns", "bob 4\nhal 1\neve 1"), ("again", "no"), ("undo 7", "done"),
            ("undo", "no"), ("record", "nothing"), ("again", "done"), ("record", "birth bob eve 0"),
            ("death cat", "done"), ("again", "no"), ("undo 1", "done"), ("again 1", "done"),
            ("death bob", "done"), ("death eve", "done"), ("death dan", "done"), ("heir", "nobody"), ("claim 9", "nobody"),
            ("reigns", "bob 3\neve 1\ndan 1\nnobody 1"))

    def test_the_very_house(self):
        desk = self.begin(Desk())
        house = desk.house
        self.assertEqual(house, House(ELDEST, FAMILY, NAMES))
        self.assertEqual(desk.say("death bob"), "done")
        self.assertIs(desk.house, house)
        self.assertEqual(house.record, (("death", "bob"),))
        house.enter(("birth", "cat", "eve", 0))
        self.talk(desk, ("record", "death bob\nbirth cat eve 0"), ("heir", "cat"), ("undo", "done"))
        self.assertEqual(house.record, (("death", "bob"),))

    def test_nothing_without_a_custom_or_a_house(self):
        desk = Desk()
        for line in ODD + ("house", "heir", "claim 1", "tree", "record", "reigns", "undo", "again", "death bob",
                           "birth bob eve 0", "late 0 death bob"):
            self.assertEqual(desk.say(line), "no", line)
            self.assertIsNone(desk.house)
        for line in CUSTOM_LINES:
            self.assertEqual(desk.say(line), "no")
        self.talk(desk, ("custom", "more"), *[(line, "more") for line in CUSTOM_LINES[:-1]], (CUSTOM_LINES[-1], "done"),
                  ("heir", "no"), ("tree", "no"), ("record", "no"), ("end", "no"), ("house", "more"))

    def test_what_is_answered_with_no_changes_nothing(self):
        desk = self.begin(Desk())
        self.talk(desk, ("birth bob fay 0", "done"), ("undo", "done"))
        before = state(desk.house)
        for line in ODD:
            self.assertEqual(desk.say(line), "no", line)
            self.assertEqual(state(desk.house), before)
        self.talk(desk, ("again", "done"), ("record", "birth bob fay 0"))

    def test_odd_lines_where_much_can_be_taken_back(self):
        desk = self.begin(Desk())
        self.talk(desk, ("birth bob fay 0", "done"), ("death fay", "done"), ("death cat", "done"), ("undo", "done"))
        before = state(desk.house)
        for line in ("undo 1 1", "undo 1 x", "undo 0", "undo 3", "undo 01", "undo ", " undo", "undo 1 ", "again 1 1", "again 0",
                     "again 2", "again 01", "again ", "strike 0 0", "strike 0", "strike 2", "strike", "strike 1 ", "late 0",
                     "late 3 death cat", "late 0 death fay", "late 2 death bob bob", "late 2", "claim 1 2", "heir 1"):
            self.assertEqual(desk.say(line), "no", line)
            self.assertEqual(state(desk.house), before)
        self.talk(desk, ("again 1", "done"), ("undo 1", "done"), ("strike 1", "done"), ("strike 0", "done"),
                  ("record", "nothing"))

    def test_customs_broken_off(self):
        for odd in ("custom", "house", "end", "heir", "", None, 7, "marks 1", "marks 1\nstands none"):
            for many in range(len(CUSTOM_LINES)):
                if (many, odd) == (0, "marks 1"):
                    continue
                desk = self.begin(Desk(), YOUNGEST)
                house = desk.house
                self.talk(desk, ("death cat", "done"), ("custom", "more"), *[(line, "more") for line in CUSTOM_LINES[:many]],
                          (odd, "no"))
                # it is dropped, and the older custom and the house stand
                self.talk(desk, (CUSTOM_LINES[many], "no"), ("heir", "dan"))
                self.assertIs(desk.house, house)
                self.talk(desk, ("house", "more"), ("0 x 0 living", "more"), ("end", "done"))
                self.assertEqual(desk.house, House(YOUNGEST, (LEAF,), ("x",)))

    def test_trees_broken_off(self):
        rows = TREE.split("\n")
        for odd in ("custom", "house", "heir", "", None, 7, "0 ann 0 dead", "3 x 0 living", "1 ann 0 dead", "1 x 3 living",
                    "1 x 0", "1 x 0 living ", "end "):
            for many in range(len(rows) + 1):
                if (many, odd) == (0, "0 ann 0 dead"):
                    continue
                if (many, odd) == (4, "3 x 0 living"):
                    continue
                desk = self.begin(Desk())
                desk.say("death bob")
                before = state(desk.house)
                self.talk(desk, ("house", "more"), *[(line, "more") for line in rows[:many]], (odd, "no"), ("end", "no"))
                self.assertEqual(state(desk.house), before)
                self.talk(desk, ("heir", "cat"), ("undo", "done"))

    def test_end(self):
        desk = self.begin(Desk())
        desk.say("death bob")
        before = state(desk.house)
        # not ahead of the first line
        self.talk(desk, ("house", "more"), ("end", "no"), ("0 x 0 living", "no"), ("end", "no"), ("heir", "cat"))
        # a mark that isn't the custom's
        self.talk(desk, ("house", "more"), ("0 x 1 living", "more"), ("end", "no"), ("1 y 0 living", "no"), ("end", "no"))
        self.assertEqual(state(desk.house), before)
        self.talk(desk, ("house", "more"), ("0 x 0 living", "more"), ("end", "done"), ("record", "nothing"), ("heir", "x"),
                  ("undo", "no"))

    def test_the_newest_custom(self):
        desk = self.begin(Desk())
        lines = custom_text(YOUNGEST).split("\n")
        house = desk.house
        self.talk(desk, ("custom", "more"), *[(line, "more") for line in lines[:-1]], (lines[-1], "done"))
        self.assertIs(desk.house, house)
        self.talk(desk, ("heir", "bob"), ("death bob", "done"), ("heir", "cat"))
        self.talk(desk, ("house", "more"), *[(line, "more") for line in TREE.split("\n")], ("end", "done"), ("heir", "dan"))

    def test_three_hundred_lines(self):
        desk = self.begin(Desk())
        rows = tree_text(chain(300), tuple(NAMED[:300])).split("\n")
        self.talk(desk, ("house", "more"), *[(line, "more") for line in rows], ("end", "done"))
        self.assertEqual(desk.say("tree"), "\n".join(rows))
        self.assertEqual(desk.say(f"birth {NAMED[0]} zz 0"), "no")
        self.talk(desk, ("house", "more"), *[(line, "more") for line in rows], ("1 zz 0 living", "no"), ("end", "no"))

    def test_two_hundred_deeds(self):
        desk = self.begin(Desk())
        for number in range(200):
            self.assertEqual(desk.say(f"birth bob x{chr(97 + number // 26)}{chr(97 + number % 26)} 0"), "done")
        self.talk(desk, ("death bob", "no"), ("strike 7", "done"), ("death bob", "done"), ("undo 202", "done"),
                  ("again 202", "done"), ("again", "no"), ("undo 203", "no"), ("undo 202", "done"), ("record", "nothing"))

    def test_random_talks(self):
        rng = random.Random(7600)
        for family in small_families(7601, 12, 8, 2):
            custom = random_custom(rng, 2)
            names = tuple(NAMED[:len(Slow((family, NAMED), ()).members)])
            desk = self.begin(Desk(), custom, tree_text(family, names))
            twin = House(custom, family, names)
            for _ in range(60):
                name, born = rng.choice(twin.names), rng.choice(NAMED)
                number, steps = rng.randint(0, 6), rng.randint(0, 3)
                deed, words = rng.choice(((("death", name), f"death {name}"),
                                          (("birth", name, born, 1), f"birth {name} {born} 1")))
                call, arguments, named, line = rng.choice((
                    (twin.enter, (deed,), {}, words), (twin.late, (number, deed), {}, f"late {number} {words}"),
                    (twin.strike, (number,), {}, f"strike {number}"), (twin.undo, (), {}, "undo"),
                    (twin.undo, (), {"steps": steps}, f"undo {steps}"),
                    (twin.again, (), {"steps": steps}, f"again {steps}")))
                self.assertEqual(desk.say(line), "done" if raised(call, *arguments, **named) is None else "no")
                self.assertEqual(state(desk.house), state(twin))
                self.assertEqual(desk.say("heir"), twin.heir_name() or "nobody")
                self.assertEqual(desk.say(f"claim {steps}"), " ".join(twin.claim_names(steps)) or "nobody")
                self.assertEqual(desk.say("tree"), tree_text(twin.family, twin.names))
                self.assertEqual(desk.say("record"), "\n".join(" ".join(str(item) for item in one)
                                                               for one in twin.record) or "nothing")
                self.assertEqual(desk.say("reigns"), "\n".join(f"{one or 'nobody'} {many}"
                                                               for one, many in twin.named_reigns()))

    def test_operators(self):
        desk = Desk()
        for call in (lambda: desk + desk, lambda: desk < desk, lambda: len(desk), lambda: desk["heir"]):
            self.assertRaises(TypeError, call)
        self.assertFalse(desk == Desk())
        self.assertTrue(desk != None)  # noqa: E711
        self.assertTrue(desk == desk)


if __name__ == "__main__":
    unittest.main()
