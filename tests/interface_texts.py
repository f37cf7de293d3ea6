"""The interface of texts, trees, sheets, live houses, schemes and joined customs, for test_interface."""

from tests.helper import ELDEST, YOUNGEST, narrow
from tests.interface_later import DEAL, DEALS, OWN_FAMILIES, SECOND, TWO_MARKS
from tests.interface_tables import CUSTOMS, FAMILIES, FAMILY, RULE, RULES

TEXTS_LISTED = {
    "lettering": ("name_for(number)", "is_name(value)"),
    "texts": ("family_text(family)", "custom_text(custom)", "rule_text(rule)", "deal_text(deal)", "story_text(story)",
              "who_text(way)"),
    "parsing": ("parse_family(text)", "parse_custom(text)", "parse_rule(text)", "parse_deal(text)",
                "parse_story(text)"),
    "trees": ("need_tree(family, names)", "tree_text(family, names)", "parse_tree(text)"),
    "sheets": ("sheet_entries(text)", "judged(text)"),
    "live": ("under(manager, deed)",),
    "schemes": ("need_scheme(scheme)", "heir_by_scheme(scheme, custom, other, family)"),
    "joining": ("joined(scheme, custom, other)", "joining_paper(scheme, custom, other)",
                "check_joining(scheme, custom, other, paper)", "joins(scheme, custom, other, third)",
                "unjoined_family(scheme, custom, other, third)"),
}

LETTERED = [(value, ("BadNumber", value)) for value in (None, True, False, "0", [], -1, 10 ** 6 + 1)]
STORIES = [(value, ("BadStory", place)) for value, place in (
    (None, None), (0, None), ([], None), ([("death", ())], None), ((("death", ()),) * 201, None), ((None,), 0),
    ((("death", ()), ["death", ()]), 1), ((("birth", (), 3),), 0), ((("birth", (), True),), 0),
    ((("birth", ()),), 0), ((("death", (), 0),), 0), ((("death", (600,)),), 0), ((("death", (-1,)),), 0),
    ((("death", (True,)),), 0), ((("death", [0]),), 0), ((("death", (0,) * 2000),), 0), ((("die", ()),), 0))]
WHOS = [(value, ("BadWay", value)) for value in (0, True, "", "founder", [], [0], (True,), (-1,), (600,), ("0",),
                                                (0,) * 2000)]
WORDS = [(value, ("BadWords", None, None)) for value in (None, 0, True, [], ("a",))]
WORDS += [(value, ("BadWords", 0, 0)) for value in ("", " ", "A 0 living", "\n", "- a 0 living")]
NAMES = ("a", "b", "c", "d", "e")
NAME_LISTS = [(value, ("BadName", value)) for value in (None, 0, "abcde", list(NAMES), NAMES[:4], NAMES + ("f",), ())]
NAME_LISTS += [(NAMES[:2] + (value,) + NAMES[3:], ("BadName", value)) for value in (
    None, 0, True, "", "a", "b", "nobody", "abcdefghi", "A", "a1", "a b", ["c"])]
TREES = FAMILIES + [(narrow(301), ("TooGreat", 300))]
SCHEME = ("none", "first", "second", "first", "first", "second", "none", "first")
SCHEMES = [(value, ("BadSentence", place)) for value, place in (
    (None, None), (0, None), ("none", None), ([], None), (list(SCHEME), None), (SCHEME[:7], None),
    (SCHEME + ("none",), None), (("first",) + SCHEME[1:], 0), (SCHEME[:1] + ("second",) + SCHEME[2:], 1),
    (SCHEME[:2] + ("first",) + SCHEME[3:], 2), (SCHEME[:3] + ("second",) + SCHEME[4:], 3),
    (SCHEME[:4] + (None,) + SCHEME[5:], 4), (SCHEME[:5] + ("same",) + SCHEME[6:], 5),
    (SCHEME[:6] + (["first"],) + SCHEME[7:], 6), (SCHEME[:7] + (0,), 7), ((None,) * 8, 0))]
THIRDS = CUSTOMS + [TWO_MARKS]
JOINING_PAPERS = [(value, ("BadPaper", "form")) for value in (
    None, 0, [], (), ("custom",), ["custom", ELDEST], ("custom", None), ("custom", TWO_MARKS[0]), ("custom", ELDEST, 0),
    (None, ELDEST), ("line", FAMILY), ("line", FAMILY, (0,), 0), ("line", None, ()), ("line", FAMILY, None),
    ("line", FAMILY, (2,)), ("line", FAMILY, [0]), ("line", ((1, True, ()),), ()), ("line", FAMILY, (True,)),
    ("rows", FAMILY, (), FAMILY, (), 1), (None, FAMILY, (), FAMILY, (), 1), ("lines", FAMILY, ()),
    ("row", FAMILY, (), FAMILY, ()), ("row", FAMILY, (), FAMILY, (), 0), ("row", FAMILY, (), FAMILY, (), 3),
    ("row", FAMILY, (), FAMILY, (1,), 1), ("row", FAMILY, (), FAMILY, (), True), ("row", FAMILY, (), FAMILY, (), None),
    ("row", FAMILY, (), FAMILY, (2,), 1), ("row", FAMILY, (), (), (), 1), ("row", list(FAMILY), (), FAMILY, (), 1))]
JOINING_PAPERS += [(("custom", YOUNGEST), ("BadPaper", "custom")), (("line", FAMILY, ()), ("BadPaper", "line")),
                   (("row", FAMILY, (), FAMILY, (), 1), ("BadPaper", "row"))]
# whom the eldest's custom names is always there if anybody is
FIRST_SCHEME = ("none", "first", "none") + ("first",) * 5

TEXTS_WRONG = {
    "lettering.name_for": ((26,), (LETTERED,)),
    "lettering.is_name": (("abc",), ([],)),
    "texts.family_text": ((FAMILY,), (FAMILIES,)),
    "texts.custom_text": ((ELDEST,), (CUSTOMS,)),
    "texts.rule_text": ((RULE,), (RULES,)),
    "texts.deal_text": ((DEAL,), (DEALS,)),
    "texts.story_text": (((("birth", (0, 1), 2), ("death", ())),), (STORIES,)),
    "texts.who_text": (((0, 12),), (WHOS,)),
    "parsing.parse_family": (("ab 0 living\nb 1 dead ab ab",), (WORDS,)),
    "parsing.parse_custom": (("marks 1\nstands none\nranks none\nread 0 none\ndead 0 none\nliving 0 none",), (WORDS,)),
    "parsing.parse_rule": (("marks 1\nliving last\ndead no\neldest 0 self",), (WORDS,)),
    "parsing.parse_deal": (("marks 1\nweights 7\nstands 1\nread 0\ndead 0 lost\nliving 0 self",), (WORDS,)),
    "parsing.parse_story": (("birth 0.1 2\ndeath founder",), (WORDS,)),
    "trees.need_tree": ((FAMILY, NAMES), (TREES, NAME_LISTS)),
    "trees.tree_text": ((FAMILY, NAMES), (TREES, NAME_LISTS)),
    "trees.parse_tree": (("0 a 0 living\n1 b 2 dead",), (WORDS,)),
    "sheets.sheet_entries": (("story s\n- nothing",), (WORDS,)),
    "sheets.judged": (("story s\n- nothing\nsteady s",), (WORDS,)),
    "schemes.need_scheme": ((SCHEME,), (SCHEMES,)),
    "schemes.heir_by_scheme": ((SCHEME, ELDEST, YOUNGEST, FAMILY), (SCHEMES, CUSTOMS, SECOND, OWN_FAMILIES)),
    "joining.joined": ((SCHEME, ELDEST, YOUNGEST), (SCHEMES, CUSTOMS, SECOND)),
    "joining.joining_paper": ((SCHEME, ELDEST, YOUNGEST), (SCHEMES, CUSTOMS, SECOND)),
    "joining.check_joining": ((FIRST_SCHEME, ELDEST, ELDEST, ("custom", ELDEST)),
                              (SCHEMES, CUSTOMS, SECOND, JOINING_PAPERS)),
    "joining.joins": ((SCHEME, ELDEST, YOUNGEST, ELDEST), (SCHEMES, CUSTOMS, SECOND, THIRDS)),
    "joining.unjoined_family": ((SCHEME, ELDEST, YOUNGEST, ELDEST), (SCHEMES, CUSTOMS, SECOND, THIRDS)),
}
