"""heirlines.lettering, texts and parsing: points [71] and [72]"""

import random
import unittest

from heirlines.lettering import is_name, name_for
from heirlines.parsing import parse_custom, parse_deal, parse_family, parse_rule, parse_story
from heirlines.shorts import short
from heirlines.texts import custom_text, deal_text, family_text, rule_text, story_text, who_text
from tests import looks
from tests.helper import (ELDEST, all_rules, altered, big_customs, chain, customs, deals, doubled, grow, raised,
                          random_family, random_story, retold, rule_words, rules, small_families, tell, with_members)

VOCABULARY = ("0", "1", "2", "3", "7", "9", "00", "99", "100", "none", "held", "old", "new", "line", "self", "lines",
              "lost", "marks", "read", "dead", "living", "stands", "ranks", "weights", "eldest", "youngest", "yes", "no",
              "past", "late", "last", "a", "b", "c", "nobody", "founder", "birth", "death", "nothing", "0.1", "", "1.",
              "ninelett", "ninelette", "A", "600", "0.600", "599", "-", "heir")
ELDEST_TEXT = ("marks 1\nstands none held\nranks none held\nread 0 none 1 new\nread 1 old 1 old\n"
               "dead 0 none 1 line\nliving 1 self 1 self")


class Names(unittest.TestCase):

    def test_name_for(self):
        for number, name in ((0, "a"), (1, "b"), (25, "z"), (26, "ba"), (27, "bb"), (675, "zz"), (676, "baa"),
                             (701, "baz"), (10 ** 6, "cexho")):
            self.assertEqual(name_for(number), name)

    def test_names_are_numbers_in_letters(self):
        for number in list(range(2000)) + [17575, 17576, 456975, 456976, 999999]:
            back = 0
            for letter in name_for(number):
                back = 26 * back + "abcdefghijklmnopqrstuvwxyz".index(letter)
            self.assertEqual(back, number)
            self.assertTrue(is_name(name_for(number)))
            self.assertTrue(number == 0 or name_for(number)[0] != "a")

    def test_is_name(self):
        for value in ("a", "z", "abcdefgh", "aaaaaaaa", "founder", "nobodyx", "living"):
            self.assertIs(is_name(value), True, value)
        for value in ("", "nobody", "abcdefghi", "A", "aB", "a1", "a b", " a", "a\n", "a.b", "-", "_", "0", None, True,
                      0, [], ("a",), ["a"], b"a", {}):
            self.assertIs(is_name(value), False, value)


class Told(unittest.TestCase):

    def test_families_by_hand(self):
        self.assertEqual(family_text(((2, True, ()),)), "a 2 living")
        self.assertEqual(family_text(((0, True, ()), (0, True, ()), (1, False, (0, 1)))), "a 0 living\nb 1 dead a a")
        self.assertEqual(family_text(((0, True, ()), (1, False, ()), (0, True, ()), (2, True, (1, 0, 2)))),
                         "a 1 dead\nb 0 living\nc 2 living a b b")
        last = family_text(chain(30)).split("\n")[-3:]
        self.assertEqual(last, ["bb 0 living ba", "bc 0 living bb", "bd 0 living bc"])

    def test_customs_by_hand(self):
        self.assertEqual(custom_text(ELDEST), ELDEST_TEXT)
        two = (2,) + ELDEST[1:4] + (ELDEST[4] + ((((0, "none"), (0, "none")), ((1, "self"), (1, "line"))),),)
        self.assertEqual(custom_text(two), ELDEST_TEXT.replace("marks 1", "marks 2")
                         + "\ndead 0 none 0 none\nliving 1 self 1 line")

    def test_rules_by_hand(self):
        self.assertEqual(rule_text((1, ("last",), (False,), ())), "marks 1\nliving last\ndead no")
        rule = (2, ("self", "none"), (True, False), (("youngest", ((0, "late"), (1, "self"))), ("eldest", ((0, "self"),))))
        self.assertEqual(rule_text(rule), "marks 2\nliving self none\ndead yes no\nyoungest 0 late 1 self\neldest 0 self")

    def test_deals_by_hand(self):
        deal = (1, (2, 0, 99), ((1, 1, 0), (0, 1, 1)), ((((0, "lost"), (1, "lines")), ((2, "self"), (1, "lines"))),))
        self.assertEqual(deal_text(deal), "marks 1\nweights 2 0 99\nstands 2\nread 1 1 0\nread 0 1 1\n"
                                          "dead 0 lost 1 lines\nliving 2 self 1 lines")

    def test_stories_by_hand(self):
        self.assertEqual(story_text(()), "nothing")
        self.assertEqual(story_text((("birth", (), 2), ("death", (0, 12, 599)), ("birth", (7,), 0))),
                         "birth founder 2\ndeath 0.12.599\nbirth 7 0")
        self.assertEqual(story_text((("death", ()),) * 200), "\n".join(["death founder"] * 200))

    def test_ways_by_hand(self):
        self.assertEqual([who_text(way) for way in (None, (), (0,), (3, 0, 10))], ["nobody", "founder", "0", "3.0.10"])
        self.assertEqual(who_text((599,) * 1999), ".".join(["599"] * 1999))

    def test_families_that_read_alike_have_one_text(self):
        for number, family in enumerate(small_families(7100, 60)):
            self.assertEqual(family_text(retold(family, number)), family_text(family))
            self.assertEqual(family_text(short(family)), family_text(family))

    def test_unlike_things_have_unlike_texts(self):
        families = {tell(grow(family)) for family in small_families(7101, 200)}
        self.assertEqual(len({family_text(family) for family in families}), len(families))
        self.assertEqual(len({rule_text(rule) for rule in all_rules()}), 888)
        told = set(customs(7102, 200, 2) + customs(7103, 100, 1))
        self.assertEqual(len({custom_text(custom) for custom in told}), len(told))


class ReadBack(unittest.TestCase):

    def test_all_things(self):
        for family in small_families(7110, 80) + [with_members(10 ** 60), doubled(199), chain(2000)]:
            self.assertEqual(parse_family(family_text(family)), short(family))
        for custom in customs(7111, 60, 1, 8) + customs(7112, 40, 3, 8) + big_customs(7113, 20):
            self.assertEqual(parse_custom(custom_text(custom)), custom)
        for rule in all_rules() + rules(7114, 100, 2) + rules(7115, 100, 3):
            self.assertEqual(parse_rule(rule_text(rule)), rule)
        for deal in deals(7116, 100, 1, 8, 8) + deals(7117, 100, 3, 8, 8):
            self.assertEqual(parse_deal(deal_text(deal)), deal)
        rng = random.Random(7118)
        for family in small_families(7119, 60):
            story = random_story(rng, grow(family), rng.randrange(12))
            self.assertEqual(parse_story(story_text(story)), story)

    def test_kinds_of_what_is_read(self):
        for text in (custom_text(ELDEST), family_text(chain(2)), "marks 1"):
            self.assertEqual(parse_family("x 0 living\ny 1 dead x x"), ((0, True, ()), (1, False, (0, 0))), text)
        custom = parse_custom(ELDEST_TEXT)
        self.assertTrue(all(type(item) is bool for item in custom[1] + custom[2]))

    def test_names_of_ones_own_and_lines_twice(self):
        text = "nobodyy 0 living\nz 0 living\nunneeded 2 dead z\nfounder 1 dead z nobodyy"
        self.assertEqual(parse_family(text), ((0, True, ()), (1, False, (0, 0))))
        rng = random.Random(7120)
        for number, family in enumerate(small_families(7121, 60)):
            told = retold(family, number)
            names = rng.sample([name_for(one) for one in range(5000)], len(told))
            rows = [[names[at], str(mark), "living" if is_alive else "dead"] + [names[child] for child in children]
                    for at, (mark, is_alive, children) in enumerate(told)]
            self.assertEqual(parse_family("\n".join(" ".join(row) for row in rows)), short(told))

    def test_bounds(self):
        lines = [f"{name_for(number)} 0 dead" for number in range(2000)]
        self.assertEqual(parse_family("\n".join(lines)), ((0, False, ()),))
        self.assertEqual(raised(parse_family, "\n".join(lines + ["zzzz 0 dead"])), ("BadWords", 2000, 0))
        self.assertEqual(len(parse_family("a 0 dead\nb 1 dead" + " a" * 600)[1][2]), 600)
        self.assertEqual(raised(parse_family, "a 0 dead\nb 1 dead" + " a" * 601), ("BadWords", 1, 603))
        self.assertEqual(len(parse_story("\n".join(["death 0"] * 200))), 200)
        self.assertEqual(raised(parse_story, "\n".join(["death 0"] * 201)), ("BadWords", 200, 0))
        way = ".".join(["599"] * 1999)
        self.assertEqual(parse_story("death " + way), (("death", (599,) * 1999),))
        self.assertEqual(raised(parse_story, "death " + way + ".0"), ("BadWords", 0, 1))

    def test_too_many_members_come_behind_all_words(self):
        text = family_text(with_members(10 ** 60))
        top = text.split("\n")[-1].split(" ")[0]
        self.assertEqual(raised(parse_family, text + f"\nxxx 0 dead {top}"), ("BadFamily", None))
        self.assertEqual(raised(parse_family, text + f"\nxxx 0 dead {top} xxx"),
                         ("BadWords", len(text.split("\n")), 4))
        # a line that isn't needed may have more
        self.assertEqual(parse_family(text + f"\nxxx 0 dead {top}\nyyy 1 living"), ((1, True, ()),))


class CantBeRead(unittest.TestCase):

    def check(self, parse, look, text):
        wrong = looks.first_wrong(look, text)
        told = raised(parse, text)
        self.assertEqual(told, None if wrong is None else ("BadWords",) + wrong, text)
        return wrong is not None

    def check_all(self, parse, look, texts, seed):
        rng = random.Random(seed)
        many = 0
        for text in texts:
            self.assertFalse(self.check(parse, look, text))
            for _ in range(25):
                one = altered(text, rng, VOCABULARY)
                many += self.check(parse, look, one)
                many += self.check(parse, look, altered(one, rng, VOCABULARY))
        self.assertGreater(many, 20 * len(texts))

    def test_families(self):
        texts = [family_text(family) for family in small_families(7130, 60)]
        self.check_all(parse_family, looks.family, texts, 7131)

    def test_customs(self):
        told = customs(7132, 50, 1, 8) + customs(7133, 30, 3, 5) + big_customs(7134, 20, 2, 3, 8)
        self.check_all(parse_custom, looks.custom, [custom_text(custom) for custom in told], 7135)

    def test_rules_of_one_mark_against_all_their_texts(self):
        rng = random.Random(7136)
        texts = [rule_text(rule) for rule in rng.sample(all_rules(), 150)]
        self.assertTrue(all(rule_words()[tuple(text.replace("\n", " \n ").split(" "))] for text in texts))
        for text in texts:
            for _ in range(20):
                one = altered(text, rng, VOCABULARY)
                if one.startswith("marks 1"):
                    self.check(parse_rule, looks.rule_of_one_mark, one)

    def test_deals(self):
        told = deals(7137, 60, 1, 8, 8) + deals(7138, 30, 3, 4, 4)
        self.check_all(parse_deal, looks.deal, [deal_text(deal) for deal in told], 7139)

    def test_stories(self):
        rng = random.Random(7140)
        told = [random_story(rng, grow(random_family(rng, 5)), rng.randint(0, 8)) for _ in range(60)]
        self.check_all(parse_story, looks.story, [story_text(story) for story in told], 7141)

    def test_places_by_hand(self):
        head = "marks 2\nliving last self\ndead yes no"
        for parse, text, line, word in (
                (parse_family, "", 0, 0), (parse_family, "a", 0, 1), (parse_family, "a 0", 0, 2),
                (parse_family, "a 0 living ", 0, 3), (parse_family, "a 0 living a", 0, 3),
                (parse_family, "a 0 living\na 0 living", 1, 0), (parse_family, "a 0 living\n", 1, 0),
                (parse_family, "a  0 living", 0, 1), (parse_family, "a 3 living", 0, 1),
                (parse_family, "a 0 alive", 0, 2), (parse_family, "nobody 0 living", 0, 0),
                (parse_family, "a 0 living\nb 0 dead a c", 1, 4), (parse_family, " a 0 living", 0, 0),
                (parse_custom, "", 0, 0), (parse_custom, "marks", 0, 1), (parse_custom, "marks 1", 1, 0),
                (parse_custom, "marks 4", 0, 1), (parse_custom, "marks 1 ", 0, 2), (parse_custom, "marks 01", 0, 1),
                (parse_custom, "marks 1\nstands held", 1, 1), (parse_custom, "marks 1\nstands", 1, 1),
                (parse_custom, "marks 1\nstands" + " none" * 9, 1, 9),
                # the eighth rank, if all are held; fewer such ranks can't end the line
                (parse_custom, "marks 1\nstands none\nranks" + " held" * 8, 2, 8),
                (parse_custom, "marks 1\nstands none\nranks" + " held" * 7, 2, 8),
                (parse_custom, "marks 1\nstands none\nranks held", 2, 2),
                (parse_custom, "marks 1\nstands none\nranks" + " held" * 7 + " none", 3, 0),
                (parse_custom, ELDEST_TEXT + "\n", 7, 0), (parse_custom, ELDEST_TEXT + " ", 6, 5),
                (parse_custom, ELDEST_TEXT.replace("1 new", "1 old"), 3, 4),
                (parse_custom, ELDEST_TEXT.replace("dead 0 none", "dead 1 line"), 5, 1),
                (parse_custom, ELDEST_TEXT.replace("read 0 none", "read 1 new"), 3, 1),
                (parse_rule, head.replace("last self", "last"), 1, 2), (parse_rule, head + "\neldest", 3, 1),
                (parse_rule, head + "\neldest 0", 3, 2), (parse_rule, head + "\neldest 2 self", 3, 1),
                (parse_rule, head + "\neldest 0 past 0 late", 3, 4), (parse_rule, head + "\neldest 0 self 0", 3, 3),
                (parse_rule, head + "\neldest 1 self 0 self", 3, 3), (parse_rule, head + "\neldest 1 self 1", 3, 3),
                (parse_rule, head + "\neldest 0 self\nyoungest 0 self", 4, 2),
                (parse_rule, head + "\neldest 0 late 0 past 0 self\nyoungest 0", 4, 1),
                # no kind is left, so no group can begin
                (parse_rule, head + "\neldest 0 late 0 past 0 self 1 late 1 past 1 self\neldest", 4, 0),
                # six groups, and a seventh
                (parse_rule, "marks 3\nliving last self self\ndead yes no no" + "".join(
                    f"\neldest {mark} {how}" for mark in (0, 1, 2) for how in ("late", "past")) + "\neldest 0 self", 9, 0),
                (parse_deal, "marks 1\nweights", 1, 1), (parse_deal, "marks 1\nweights 100", 1, 1),
                (parse_deal, "marks 1\nweights" + " 1" * 9, 1, 9), (parse_deal, "marks 1\nweights 1\nstands 9", 2, 1),
                (parse_deal, "marks 1\nweights 1\nstands 1\nread 1", 3, 1),
                (parse_deal, "marks 1\nweights 1\nstands 1\nread 0\ndead 0 self", 4, 2),
                (parse_deal, "marks 1\nweights 1\nstands 1\nread 0\ndead 0 lost", 5, 0),
                (parse_story, "nothing\nnothing", 1, 0), (parse_story, "death 0\nnothing", 1, 0),
                (parse_story, "nothing ", 0, 1), (parse_story, "birth 0", 0, 2), (parse_story, "birth 0 3", 0, 2),
                (parse_story, "death 600", 0, 1), (parse_story, "death 0.", 0, 1), (parse_story, "death 0.01", 0, 1),
                (parse_story, "death nobody", 0, 1), (parse_story, "death 0 0", 0, 2), (parse_story, "death", 0, 1)):
            self.assertEqual(raised(parse, text), ("BadWords", line, word), text)

    def test_no_string(self):
        for value in (None, 0, True, [], (), b"nothing", ["nothing"]):
            for parse in (parse_family, parse_custom, parse_rule, parse_deal, parse_story):
                self.assertEqual(raised(parse, value), ("BadWords", None, None))


if __name__ == "__main__":
    unittest.main()
