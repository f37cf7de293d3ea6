"""The names, the parameters and the wrong arguments of the interface, for test_interface."""

from tests.helper import ELDEST, YOUNGEST, with_members

FIRST_LISTED = {
    "lines": ("need_family(family, marks=3)", "how_high(family)"),
    "shorts": ("short(family)", "read_alike(family, other)", "settled(family)", "first_apart(family, other)",
               "in_both(family, other)"),
    "ways": ("need_way(family, way)", "line_at(family, way)", "own_line(family, way)", "kin(way, other_way)",
             "meeting(way, other_way)"),
    "counts": ("how_many(family, who=(None, None))", "levels(family, who=(None, None))",
               "number_of(family, order, who, way)", "find(family, order, who, number)", "places(family, other)",
               "place_at(family, other, number)", "members(family)"),
    "kindred": ("kin_numbers(family, way, who)", "kin_found(family, way, who, up, down, number)"),
    "changes": ("put_in(family, way, other)", "put_under(family, way, number, other)", "taken_out(family, way)",
                "marked(family, way, mark, is_alive)", "put_everywhere(family, other, new_family)"),
    "customs": ("need_custom(custom)", "is_custom(value)", "same_marks(custom, other)",
                "renumbered(custom, stands, ranks)", "with_marks(custom, marks)", "barring(custom, marks)"),
    "readings": ("rank_of(custom, family)", "reading(custom, family)", "stand_behind(custom, ranks)"),
    "heirs": ("heir(custom, family)", "claims(custom, family, many)", "place_of(custom, family, way)",
              "heir_paper(custom, family)", "check_heir(custom, family, paper)"),
    "deeds": ("need_deed(family, deed, marks=3)", "after(family, deed)", "behind(family, story)",
              "are_apart(deed, other_deed)", "reigns(custom, family, story)", "deaths_of(family, ways)"),
    "rules": ("need_rule(rule)", "all_kinds(marks)", "kinds_that_come(rule)", "has_rows(rule)", "mirrored_rule(rule)",
              "mirrored_family(family)", "mirrored_way(family, way)", "how_many_rules(marks)",
              "how_many_plain_forms(marks)"),
    "walks": ("heir_by(rule, family)", "kind_by(rule, family)", "how_many_claims(rule, family)",
              "claimant(rule, family, number)", "place_in_claim(rule, family, way)", "stretches(rule, family)",
              "row_stretches(rule, family)"),
    "plain": ("plain_form(rule)", "are_alike_rules(rule, other_rule)", "family_apart(rule, other_rule)",
              "is_one_order(rule)", "disorder(rule)", "lots_of_rules(rules)"),
    "pairs": ("line_pairs(custom, other)", "stand_pairs(custom, other)", "sizes(custom, other)",
              "behind_read(custom, other, stands, ranks)", "behind_close(custom, other, stands, mark, is_alive)"),
    "reached": ("reached_ranks(custom)", "reached_stands(custom)", "line_for(custom, rank)", "line_size(custom, rank)",
                "row_for(custom, stand)", "row_size(custom, stand)", "is_needed(custom, stand)"),
}

LEAF = (0, True, ())
FAMILY = (LEAF, (0, False, (0, 0)), (0, True, (1, 0)))
RULE = (1, ("last",), (True,), (("eldest", ((0, "late"), (0, "past"), (0, "self"))),))
NUMBERS = [(value, ("BadNumber", value)) for value in (None, True, False, "0", [], (0,), -1)]
FAMILIES = [(value, ("BadFamily", None)) for value in (None, True, 0, "f", [], list(FAMILY), (),
                                                       with_members(10 ** 60 + 1))]
FAMILIES += [(FAMILY[:1] + (value,), ("BadFamily", 1)) for value in (None, [0, True, ()], (True, True, ()), (0, 1, ()),
                                                                    (0, True, [0]), (0, True, (1,)))]
WAYS = [(value, ("BadWay", value)) for value in (None, True, 0, "", [], [0], (True,), (False,), (2,), ("0",))]
CUSTOMS = [(value, ("BadCustom", word)) for value, word in (
    (None, "form"), (list(ELDEST), "form"), ((True,) + ELDEST[1:], "form"), ((1, [False]) + ELDEST[2:], "stands"),
    (ELDEST[:2] + ((1, 0),) + ELDEST[3:], "ranks"), (ELDEST[:3] + (None, None), "read"), (ELDEST[:4] + (0,), "close"))]
RULES = [(value, ("BadRule", word)) for value, word in (
    (None, "form"), (list(RULE), "form"), ((True,) + RULE[1:], "marks"), (RULE[:1] + (["last"],) + RULE[2:], "living"),
    (RULE[:2] + ((1,),) + RULE[3:], "dead"), (RULE[:3] + (None,), "groups"))]
WHOS = [(value, ("BadNumber", value)) for value in (
    None, 0, (), [None, None], (None,), (None, None, None), (3, None), (-1, None), (True, None), (None, 1), (None, 0),
    ("0", True), (None, "True"), (0, []))]
TRUTHS = [(value, ("BadNumber", value)) for value in (None, 0, 1, "True", ())]
DEEDS = [(value, ("BadDeed", word)) for value, word in (
    (None, "form"), (["death", ()], "form"), (("death", [0]), "way"), (("death", (600,)), "way"))]
STORIES = [(value, ("BadStory", place)) for value, place in (
    (None, None), ([], None), ((("death", ()),) * 201, None), ((None,), 0), ((("death", ()), ("death", ())), 1))]
MARK = [(value, ("BadNumber", value)) for value in (None, True, -1, 3, "0", (0,))]
STANDS = [(value, ("BadNumber", value)) for value in (None, 0, [0, 0, "none"], (0, 0), (False, 0, "none"), (2, 0,
                                                                                                            "none"),
                                                      (0, 0, "same"), (0, 0, None))]
TURNS = [(value, ("BadNumber", value)) for value in (None, 0, [0, 1], (0,), (0, 2), (0, True))]

# a function, good arguments, and for each argument wrong ones with what is told of them
FIRST_WRONG = {
    "lines.how_high": ((FAMILY,), (FAMILIES,)),
    "shorts.short": ((FAMILY,), (FAMILIES,)),
    "shorts.settled": ((FAMILY,), (FAMILIES,)),
    "shorts.read_alike": ((FAMILY, FAMILY), (FAMILIES, FAMILIES)),
    "shorts.first_apart": ((FAMILY, FAMILY), (FAMILIES, FAMILIES)),
    "shorts.in_both": ((FAMILY, FAMILY), (FAMILIES, FAMILIES)),
    "ways.need_way": ((FAMILY, (0, 1)), (FAMILIES, WAYS)),
    "ways.line_at": ((FAMILY, (0, 1)), (FAMILIES, WAYS)),
    "ways.own_line": ((FAMILY, (0, 1)), (FAMILIES, WAYS)),
    "ways.kin": (((0,), (2,)), (WAYS[:8] + WAYS[9:], WAYS[:8] + WAYS[9:])),
    "ways.meeting": (((0,), (2,)), (WAYS[:8] + WAYS[9:], WAYS[:8] + WAYS[9:])),
    "counts.how_many": ((FAMILY, (0, None)), (FAMILIES, WHOS)),
    "counts.levels": ((FAMILY, (0, None)), (FAMILIES, WHOS)),
    "counts.number_of": ((FAMILY, "first", (0, None), (0,)), (FAMILIES, [
        (value, ("BadNumber", value)) for value in (None, 0, True, "", "First", [], ("first",))], WHOS, WAYS)),
    "counts.find": ((FAMILY, "last", (0, None), 1), (FAMILIES, [
        (value, ("BadNumber", value)) for value in (None, 0, True, "", "level", ["levels"])], WHOS, NUMBERS)),
    "counts.places": ((FAMILY, FAMILY), (FAMILIES, FAMILIES)),
    "counts.place_at": ((FAMILY, FAMILY, 0), (FAMILIES, FAMILIES, NUMBERS)),
    "counts.members": ((FAMILY,), (FAMILIES,)),
    "kindred.kin_numbers": ((FAMILY, (0, 1), (None, None)), (FAMILIES, WAYS, WHOS)),
    "kindred.kin_found": ((FAMILY, (0, 1), (None, None), 1, 1, 0), (FAMILIES, WAYS, WHOS, NUMBERS, NUMBERS, NUMBERS)),
    "changes.put_in": ((FAMILY, (0,), FAMILY), (FAMILIES, WAYS, FAMILIES)),
    "changes.put_under": ((FAMILY, (0,), 1, FAMILY), (FAMILIES, WAYS, NUMBERS + [(3, ("BadNumber", 3))], FAMILIES)),
    "changes.taken_out": ((FAMILY, (0,)), (FAMILIES, WAYS + [((), ("BadWay", ()))])),
    "changes.marked": ((FAMILY, (0,), 1, True), (FAMILIES, WAYS, MARK, TRUTHS)),
    "changes.put_everywhere": ((FAMILY, FAMILY, FAMILY), (FAMILIES, FAMILIES, FAMILIES)),
    "customs.need_custom": ((ELDEST,), (CUSTOMS,)),
    "customs.same_marks": ((ELDEST, YOUNGEST), (CUSTOMS, CUSTOMS)),
    "customs.renumbered": ((ELDEST, (0, 1), (1, 0)), (CUSTOMS, TURNS + [((1, 0), ("BadNumber", (1, 0)))], TURNS)),
    "customs.with_marks": ((ELDEST, (0, 0)), (CUSTOMS, [
        (value, ("BadNumber", value)) for value in (None, 0, [0], (), (1,), (True,), (0,) * 4, "0")])),
    "customs.barring": ((ELDEST, (0,)), (CUSTOMS, [
        (value, ("BadNumber", value)) for value in (None, 0, [0], (1,), (True,), (0, 0), "0")])),
    "readings.rank_of": ((ELDEST, FAMILY), (CUSTOMS, FAMILIES)),
    "readings.reading": ((ELDEST, FAMILY), (CUSTOMS, FAMILIES)),
    "readings.stand_behind": ((ELDEST, (0, 1)), (CUSTOMS, [
        (value, ("BadNumber", value)) for value in (None, 0, [0], (2,), (True,), (-1,), "0", (0,) * 2001)])),
    "heirs.heir": ((ELDEST, FAMILY), (CUSTOMS, FAMILIES)),
    "heirs.claims": ((ELDEST, FAMILY, 5), (CUSTOMS, FAMILIES, NUMBERS + [(101, ("BadNumber", 101))])),
    "heirs.place_of": ((ELDEST, FAMILY, (0,)), (CUSTOMS, FAMILIES, WAYS)),
    "heirs.heir_paper": ((ELDEST, FAMILY), (CUSTOMS, FAMILIES)),
    "heirs.check_heir": ((ELDEST, FAMILY, ("heir", (1, 1, 1), ())), (CUSTOMS, FAMILIES, [
        (value, ("BadPaper", word)) for value, word in (
            (None, "form"), (["heir", (1, 1, 1), ()], "form"), (("heir", (True, 1, 1), ()), "form"),
            (("heir", (1, 1, 0), None), "ranks"), (("heir", (1, 1, 1), None), "way"))])),
    "deeds.after": ((FAMILY, ("death", ())), (FAMILIES, DEEDS)),
    "deeds.behind": ((FAMILY, (("death", ()),)), (FAMILIES, STORIES)),
    "deeds.are_apart": ((("death", (0,)), ("birth", (1,), 2)), (DEEDS, DEEDS)),
    "deeds.reigns": ((ELDEST, FAMILY, (("death", ()),)), (CUSTOMS, FAMILIES, STORIES)),
    "deeds.deaths_of": ((FAMILY, ((0,),)), (FAMILIES, [
        (value, ("BadWay", way)) for value, way in (
            (None, None), ([], []), (((1,), (0,)), ((1,), (0,))), (((0,), (2,)), (2,)), (((True,),), ((True,),)))])),
    "rules.need_rule": ((RULE,), (RULES,)),
    "rules.all_kinds": ((1,), (NUMBERS + [(4, ("BadNumber", 4)), (0, ("BadNumber", 0))],)),
    "rules.kinds_that_come": ((RULE,), (RULES,)),
    "rules.has_rows": ((RULE,), (RULES,)),
    "rules.mirrored_rule": ((RULE,), (RULES,)),
    "rules.mirrored_family": ((FAMILY,), (FAMILIES,)),
    "rules.mirrored_way": ((FAMILY, (0,)), (FAMILIES, WAYS)),
    "rules.how_many_rules": ((2,), (NUMBERS + [(4, ("BadNumber", 4)), (0, ("BadNumber", 0))],)),
    "rules.how_many_plain_forms": ((2,), (NUMBERS + [(4, ("BadNumber", 4)), (0, ("BadNumber", 0))],)),
    "walks.heir_by": ((RULE, FAMILY), (RULES, FAMILIES)),
    "walks.kind_by": ((RULE, FAMILY), (RULES, FAMILIES)),
    "walks.how_many_claims": ((RULE, FAMILY), (RULES, FAMILIES)),
    "walks.claimant": ((RULE, FAMILY, 0), (RULES, FAMILIES, NUMBERS)),
    "walks.place_in_claim": ((RULE, FAMILY, (0,)), (RULES, FAMILIES, WAYS)),
    "walks.stretches": ((RULE, FAMILY), (RULES, FAMILIES)),
    "walks.row_stretches": ((RULE, FAMILY), (RULES, FAMILIES)),
    "plain.plain_form": ((RULE,), (RULES,)),
    "plain.are_alike_rules": ((RULE, RULE), (RULES, RULES)),
    "plain.family_apart": ((RULE, RULE), (RULES, RULES)),
    "plain.is_one_order": ((RULE,), (RULES,)),
    "plain.disorder": ((RULE,), (RULES,)),
    "plain.lots_of_rules": (((RULE, RULE),), ([(None, ("BadNumber", None)), ([RULE], ("BadNumber", [RULE])), (
        (RULE, None), ("BadRule", "form")), ((), ("BadNumber", ()))],)),
    "pairs.line_pairs": ((ELDEST, YOUNGEST), (CUSTOMS, CUSTOMS)),
    "pairs.stand_pairs": ((ELDEST, YOUNGEST), (CUSTOMS, CUSTOMS)),
    "pairs.sizes": ((ELDEST, YOUNGEST), (CUSTOMS, CUSTOMS)),
    "pairs.behind_read": ((ELDEST, YOUNGEST, (0, 0, "none"), (1, 1, "below")), (CUSTOMS, CUSTOMS, STANDS, STANDS)),
    "pairs.behind_close": ((ELDEST, YOUNGEST, (0, 1, "second"), 0, True), (
        CUSTOMS, CUSTOMS, STANDS, MARK + [(1, ("BadNumber", 1))], TRUTHS)),
    "reached.reached_ranks": ((ELDEST,), (CUSTOMS,)),
    "reached.reached_stands": ((ELDEST,), (CUSTOMS,)),
    "reached.line_for": ((ELDEST, 1), (CUSTOMS, NUMBERS + [(2, ("BadNumber", 2))])),
    "reached.line_size": ((ELDEST, 1), (CUSTOMS, NUMBERS + [(2, ("BadNumber", 2))])),
    "reached.row_for": ((ELDEST, 1), (CUSTOMS, NUMBERS + [(2, ("BadNumber", 2))])),
    "reached.row_size": ((ELDEST, 1), (CUSTOMS, NUMBERS + [(2, ("BadNumber", 2))])),
    "reached.is_needed": ((ELDEST, 1), (CUSTOMS, NUMBERS + [(2, ("BadNumber", 2))])),
}
# these two have a test of their own for the order of what is told
APART = ("lines.need_family", "deeds.need_deed", "customs.is_custom")
