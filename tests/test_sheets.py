"""heirlines.sheets: point [73]"""

import random
import unittest

from heirlines.ruled import custom_of
from heirlines.sheets import judged, sheet_entries
from heirlines.shorts import short
from heirlines.texts import custom_text, deal_text, family_text, rule_text, story_text, who_text
from tests import looks
from tests.helper import (ELDEST, NOBODY, YOUNGEST, altered, count_stands, grow, heir_in, line_of_claim, raised,
                          random_custom, random_deal, random_family, random_rule, random_story, size_of, small_families,
                          tell, with_members)
from tests.interface_later import DEAL
from tests.interface_tables import RULE
from tests.test_joining import FIRST, WHOEVER
from tests.test_texts import VOCABULARY

LEAF = (0, True, ())
FAMILY = (LEAF, (0, True, (0,)), (0, False, (0, 1)))
LATER = (LEAF, (0, False, (0, 0)), (0, False, (0, 1)))
STORY = (("birth", (1,), 0), ("death", (1,)))
TWO = (2,) + ELDEST[1:4] + (ELDEST[4] * 2,)
# the eldest child's line, as ELDEST has it, but living members ahead
ELDEST_RULE = (1, ("self",), (True,), (("eldest", ((0, "late"), (0, "self"))),))
WORDS = VOCABULARY + tuple(looks.VERDICTS) + tuple(looks.SORTS) + ("-", "-", "first", "second", "e", "y", "f", "l", "s")


def entry(sort, name, text):
    return "\n".join([f"{sort} {name}"] + ["- " + line for line in text.split("\n")])


ENTRIES = [entry("custom", "e", custom_text(ELDEST)), entry("custom", "y", custom_text(YOUNGEST)),
           entry("custom", "n", custom_text(NOBODY)), entry("custom", "both", custom_text(count_stands(2))), entry("custom", "two", custom_text(TWO)),
           entry("rule", "r", rule_text(ELDEST_RULE)), entry("rule", "last", rule_text(RULE)),
           entry("deal", "d", deal_text(DEAL)), entry("family", "f", family_text(FAMILY)),
           entry("family", "l", family_text(LATER)), entry("family", "one", "x 0 living"),
           entry("family", "m", "x 1 living"), entry("story", "s", story_text(STORY)),
           entry("story", "nothing", "nothing"), entry("story", "far", "death 7")]


class Judged(unittest.TestCase):

    def so(self, verdict, is_so, entries=ENTRIES):
        self.assertEqual(judged("\n".join(entries + [verdict])), (is_so,), verdict)

    def check(self, good, bad):
        for verdict in good:
            self.so(verdict, True)
        for verdict in bad:
            self.so(verdict, False)

    def test_heir(self):
        self.check(("heir e f 0", "heir y f 1.0", "heir n f nobody", "heir e one founder", "heir r f 0", "heir two m founder"),
                   ("heir e f 1", "heir e f nobody", "heir n f 0", "heir e f 7.7", "heir e m founder", "heir z f 0",
                    "heir e z 0", "heir f e 0", "heir d f 0", "heir s f 0", "heir e s 0"))

    def test_claims(self):
        self.check(("claims e f 0 1 1.0", "claims n f", "claims y f 1.0 1 0", "claims r f 0 1 1.0"),
                   ("claims e f 0 1", "claims e f", "claims e f 0 1 1.0 1.1", "claims n f 0", "claims e f 1 0 1.0",
                    "claims z f", "claims n z", "claims n s", "claims n m"))
        for many, is_so in ((99, True), (98, False)):
            wide = [entry("family", "wide", "a 0 living\nb 0 dead" + " a" * 99)]
            ways = "".join(f" {place}" for place in range(many))
            self.so("claims e wide" + ways, is_so, ENTRIES + wide)
        # a hundred claimants can't be told
        wide = [entry("family", "wide", "a 0 living\nb 0 dead" + " a" * 100)]
        self.so("claims e wide" + "".join(f" {place}" for place in range(99)), False, ENTRIES + wide)
        text = "\n".join(ENTRIES + wide + ["claims e wide" + "".join(f" {place}" for place in range(100))])
        self.assertEqual(raised(judged, text), ("BadWords", text.count("\n"), 102))

    def test_alike(self):
        self.check(("alike e e", "alike e r", "alike r e", "alike last last"),
                   ("alike e y", "alike e two", "alike e last", "alike z z", "alike f f", "alike e d"))

    def test_parts(self):
        self.check(("parts f e y", "parts f n r", "parts one e n"),
                   ("parts one e r", "parts f e e", "parts f e r", "parts m e n", "parts z e y", "parts f z y", "parts f e z",
                    "parts e e y", "parts s e y"))

    def test_steady_and_lasting(self):
        self.check(("steady e", "steady n", "steady r", "lasting e", "lasting n", "lasting r", "steady last"),
                   ("steady both", "lasting both", "steady z", "lasting z", "steady f", "lasting d", "steady nothing"))

    def test_leads(self):
        self.check(("leads f s l", "leads f nothing f", "leads m nothing m"),
                   ("leads f s f", "leads l s f", "leads f nothing l", "leads f far f", "leads l s l", "leads z s l",
                    "leads f z l", "leads f s z", "leads f f l", "leads f s s", "leads one far one", "leads e s l"))

    def test_heirs(self):
        self.check(("heirs e f s 0", "heirs y f s 1.0 1.1", "heirs n f s nobody", "heirs e f nothing 0"),
                   ("heirs e f s 0 0", "heirs y f s 1.0", "heirs y f s 1.1 1.0", "heirs e f far 0", "heirs e m nothing founder",
                    "heirs z f s 0", "heirs e z s 0", "heirs e f z 0", "heirs e f f 0", "heirs y f s 1.0 1.1 nobody"))

    def test_joined(self):
        first, whoever = " ".join(FIRST), " ".join(WHOEVER)
        self.check((f"joined e y e {first}", f"joined e y r {first}", f"joined n e e {whoever}", f"joined r e r {first}",
                    f"joined y e y {first}"),
                   (f"joined e y y {first}", f"joined e y two {first}", f"joined two y e {first}", f"joined e z e {first}",
                    f"joined e y z {first}", f"joined z y e {first}", f"joined e y f {first}",
                    # no SCHEME
                    "joined e e e first" + " first" * 7, "joined e e e none second second first" + " first" * 4))

    def test_share(self):
        self.check(("share d one founder 1 1", "share d f 0 2 3", "share d f 1.0 1 3", "share d f 1 0 1",
                    "share d f founder 0 1"),
                   ("share d one founder 2 2", "share d f 0 1 3", "share d f 0 4 6", "share d one founder 0 1", "share d one 0 0 1", "share d m founder 1 1",
                    "share e one founder 1 1", "share d z founder 1 1", "share z f founder 0 1", "share d s founder 0 1",
                    "share d one founder 1 0"))

    def test_several_orders(self):
        rng = random.Random(7500)
        verdicts = [("heir e f 0", True), ("heir y f 0", False), ("steady e", True), ("alike e y", False),
                    ("share d f 0 1 2", False), ("leads f s l", True), ("heirs e f s 0", True), ("steady f", False)]
        for _ in range(20):
            entries = list(ENTRIES)
            rng.shuffle(entries)
            rng.shuffle(verdicts)
            text = "\n".join(entries + [verdict for verdict, _ in verdicts])
            self.assertEqual(judged(text), tuple(is_so for _, is_so in verdicts))

    def test_against_small_families(self):
        rng = random.Random(7501)
        for number, family in enumerate(small_families(7502, 40, 12, 2)):
            custom = random_custom(rng, 2)
            founder = grow(family)
            heir, claims = heir_in(custom, founder), line_of_claim(custom, founder)
            story = random_story(rng, grow(family), 4, 2)
            entries = [entry("family", "a", family_text(family)), entry("custom", "b", custom_text(custom)),
                       entry("story", "c", story_text(story))]
            moment = grow(family)
            heirs = [heir]
            for deed in story:
                random_step(moment, deed)
                if heir_in(custom, moment) != heirs[-1]:
                    heirs.append(heir_in(custom, moment))
            entries.append(entry("family", "d", family_text(tell(moment))))
            told = ["heir b a " + who_text(heir), "claims b a" + "".join(" " + who_text(way) for way in claims),
                    "heirs b a c " + " ".join(who_text(way) for way in heirs), "leads a c d"]
            self.assertEqual(judged("\n".join(entries + told)), (True,) * 4, number)
            wrong = ["heir b a 9.9", told[1] + " 9.9", told[2] + " 9.9", "leads d c d"]
            lasts = not story
            self.assertEqual(judged("\n".join(entries + wrong)), (False, False, False, lasts), number)


def random_step(founder, deed):
    """Do a deed to the members of a founder."""
    member = founder
    for place in deed[1]:
        member = member.children[place]
    if deed[0] == "death":
        member.is_alive = False
    else:
        member.children.append(grow(((deed[2], True, ()),)))


class Entries(unittest.TestCase):

    def test_by_hand(self):
        text = "\n".join(ENTRIES)
        told = sheet_entries(text)
        self.assertEqual([(sort, name) for sort, name, _ in told],
                         [tuple(one.split("\n")[0].split(" ")) for one in ENTRIES])
        things = {name: thing for _, name, thing in told}
        self.assertEqual((things["e"], things["two"], things["r"], things["d"]), (ELDEST, TWO, ELDEST_RULE, DEAL))
        self.assertEqual((things["f"], things["s"], things["nothing"]), (short(FAMILY), STORY, ()))
        self.assertEqual(judged(text), ())
        self.assertEqual(custom_of(things["r"])[0], 1)

    def test_verdicts_alone(self):
        self.assertEqual(sheet_entries("steady a"), ())
        self.assertEqual(judged("steady a\nheir a b nobody"), (False, False))

    def test_families_are_told_short(self):
        text = "family zz\n- x 0 living\n- y 0 living\n- unused 2 dead x x\n- z 1 dead y x\nheir zz zz nobody"
        self.assertEqual(sheet_entries(text), (("family", "zz", (LEAF, (1, False, (0, 0)))),))
        self.assertEqual(sheet_entries("family zz\n- x 0 living\nfamily aa\n- x 1 living"),
                         (("family", "zz", (LEAF,)), ("family", "aa", ((1, True, ()),))))

    def test_too_many_members_come_behind_all_words(self):
        great = family_text(with_members(10 ** 60))
        top = great.split("\n")[-1].split(" ")[0]
        self.assertEqual(judged(entry("family", "f", great) + "\nheir e f 0"), (False,))
        text = entry("family", "f", great + f"\nzzz 0 dead {top}")
        for function in (sheet_entries, judged):
            self.assertEqual(raised(function, text), ("BadFamily", None))
            self.assertEqual(raised(function, text + "\nheir e f 0"), ("BadFamily", None))
            self.assertEqual(raised(function, text + "\nheir e f x"), ("BadWords", text.count("\n") + 1, 3))


class CantBeRead(unittest.TestCase):

    def test_places_by_hand(self):
        entries = "story s\n- nothing\nfamily f\n- a 0 living"
        for text, line, word in (
                ("", 0, 0), ("\n", 0, 0), ("-", 0, 0), ("- a 0 living", 0, 0), ("family", 0, 1), ("family f", 1, 0),
                ("family f ", 0, 2), ("family f g", 0, 2), ("family nobody", 0, 1), ("story F", 0, 1), ("tree t", 0, 0),
                ("family f\na 0 living", 1, 0), ("family f\n-", 1, 1), ("family f\n- ", 1, 1), ("family f\n- a", 1, 2),
                ("family f\n- a 0 alive", 1, 3), ("family f\n- a 0 living b", 1, 4), ("family f\n-a 0 living", 1, 0),
                ("family f\n- a 0 living\nfamily f", 2, 1), ("family f\n- a 0 living\n- a 0 living", 2, 1),
                ("family f\n- a 0 living\nstory f", 2, 1), ("family f\nheir e f 0", 1, 0),
                # a line of an entry that can't go on
                ("story s\n- nothing\n- nothing", 2, 0), ("story s\n- nothing\n-", 2, 0),
                (entries + "\n- b 0 living\n", 5, 0), (entries + "\nsteady e\n- b 0 living", 5, 0),
                (entries + "\nsteady e\nfamily g", 5, 0), (entries + "\nsteady", 4, 1), (entries + "\nsteady e e", 4, 2),
                (entries + "\nsteady e\n", 5, 0), (entries + "\nheir e f", 4, 3), (entries + "\nheir e f 0 0", 4, 4),
                (entries + "\nheir e f founders", 4, 3), (entries + "\nheir e nobody 0", 4, 2),
                (entries + "\nclaims e f 0 nobody", 4, 4), (entries + "\nclaims e", 4, 2),
                (entries + "\nheirs e f s", 4, 4), (entries + "\nheirs e f s nobody 0 x", 4, 6),
                (entries + "\nshare d f nobody 0 1", 4, 3), (entries + "\nshare d f 0 01 1", 4, 4),
                (entries + "\nshare d f 0 1000000000 1", 4, 4), (entries + "\nshare d f 0 -1 1", 4, 4),
                (entries + "\nshare d f 0 1", 4, 5), (entries + "\njoined a b c" + " first" * 7, 4, 11),
                (entries + "\njoined a b c" + " first" * 9, 4, 12), (entries + "\njoined a b c first nobody", 4, 5),
                (entries + "\nalike a", 4, 2), (entries + "\nparts f a b c", 4, 4), (entries + "\nleads f s", 4, 3)):
            for function in (sheet_entries, judged):
                self.assertEqual(raised(function, text), ("BadWords", line, word), text)
            self.assertEqual(looks.first_wrong(looks.sheet, text), (line, word), text)
        for value in (None, 0, [], ("story s",), b"story s"):
            for function in (sheet_entries, judged):
                self.assertEqual(raised(function, value), ("BadWords", None, None))
        self.assertEqual(judged(entries + "\nshare d f 0 999999999 0"), (False,))
        self.assertEqual(judged(entries + "\nheirs e f s" + " nobody" * 300), (False,))

    def test_altered_sheets(self):
        rng = random.Random(7510)
        many = 0
        for _ in range(120):
            told = [entry("family", "f", family_text(random_family(rng, 4))),
                    entry("custom", "e", custom_text(random_custom(rng, rng.randint(1, 2), 3))),
                    entry("rule", "r", rule_text(random_rule(rng, rng.randint(1, 2)))),
                    entry("deal", "d", deal_text(random_deal(rng, 1, 2, 2))),
                    entry("story", "s", story_text(random_story(rng, grow(random_family(rng, 3)), 3)))]
            rng.shuffle(told)
            told = told[:rng.randint(0, 3)]
            told += rng.sample(["heir e f 0.1", "claims e f 0 1 1.0", "alike e r", "parts f e r", "steady e", "lasting r",
                                "leads f s f", "heirs e f s nobody 0", "joined e r e none" + " first" * 7,
                                "share d f founder 1 2"], rng.randint(1, 3))
            text = "\n".join(told)
            self.assertIsNone(raised(sheet_entries, text))
            for _ in range(30):
                one = altered(text, rng, WORDS)
                if rng.random() < 0.3:
                    one = altered(one, rng, WORDS)
                wrong = looks.first_wrong(looks.sheet, one)
                due = None if wrong is None else ("BadWords",) + wrong
                self.assertEqual(raised(sheet_entries, one), due, one)
                many += wrong is not None
        self.assertGreater(many, 1500)

    def test_rules_of_more_marks(self):
        rng = random.Random(7511)
        for _ in range(150):
            text = entry("rule", "r", rule_text(random_rule(rng, rng.randint(2, 3))))
            for _ in range(10):
                one = altered(text, rng, WORDS)
                wrong = looks.first_wrong(looks.sheet, one)
                self.assertEqual(raised(sheet_entries, one), None if wrong is None else ("BadWords",) + wrong, one)


if __name__ == "__main__":
    unittest.main()
