"""The later part of the interface: two customs for all families, least customs, changes, views, futures, deals."""

from tests.helper import ELDEST, YOUNGEST
from tests.interface_tables import CUSTOMS, FAMILIES, FAMILY, LEAF, NUMBERS, RULE, RULES, STORIES, WAYS

LATER_LISTED = {
    "ruled": ("custom_of(rule)", "rule_of(custom)"),
    "parted": ("least_family(custom, other, pair)", "parting_family(custom, other)", "relations(custom, other)",
               "border(custom, other)", "parting_within(custom, other, children, levels)"),
    "alike": ("are_alike(custom, other)", "alike_paper(custom, other)", "check_alike(custom, other, paper)",
              "alike_lots(customs)"),
    "least": ("least_custom(custom)", "led_numbers(custom)", "size_of(custom)", "like_lots(custom)"),
    "apart": ("put_row(family, way, row)", "line_outcome(custom, family, way, line)",
              "row_outcome(custom, family, way, row)", "parting_of_ranks(custom, rank, far_rank)",
              "parting_of_stands(custom, stand, far_stand)", "taking(custom, stand)", "size_paper(custom)",
              "check_size(custom, paper)"),
    "lots": ("check_lot(custom)", "first_unlike(custom, other, lot)"),
    "outcomes": ("look_behind(custom, change, family, way)", "outcomes(custom, change)",
                 "outcome_case(custom, change, word)"),
    "steady": ("is_steady(custom)", "steady_paper(custom)", "check_steady(custom, paper)"),
    "lasting": ("is_lasting(custom)", "harm(custom)", "is_kept(custom, family, story)"),
}

# of any number of members
ANY_FAMILIES = [(value, told) for value, told in FAMILIES if not isinstance(value, tuple) or len(value) < 10]
OWN_FAMILIES = ANY_FAMILIES + [((LEAF, (1, True, (0,))), ("BadFamily", 1))]
ROWS = [(value, ("BadRow", place)) for value, place in (
    (None, None), (0, None), ([], None), ([FAMILY], None), ((FAMILY,) * 9, None), ((None,), 0), ((FAMILY, ()), 1),
    ((FAMILY, FAMILY, [LEAF]), 2), (((3, True, ()),), 0), ((FAMILY, ((0, True, (0,)),)), 1))]
STATES = NUMBERS + [(2, ("BadNumber", 2))]
TWO_MARKS = ((2,) + ELDEST[1:4] + (ELDEST[4] * 2,), ("BadMarks", 2))
SECOND = CUSTOMS + [TWO_MARKS]
CHANGES = [(value, ("BadDeed", "form")) for value in (None, 0, "heir", [], ["heir"], ("heir", 0), ("birth",),
                                                     ("birth", 1), ("birth", True), ("stillbirth", -1))]
STEADY = ("steady", ((0, 0, "none"), (1, 0, "marked"), (1, 1, "marked"), (1, 1, "same")),
          ((0, 0, "none"), (1, 0, "marked"), (1, 1, "marked"), (1, 1, "same")))

LATER_WRONG = {
    "ruled.custom_of": ((RULE,), (RULES,)),
    "ruled.rule_of": ((ELDEST,), (CUSTOMS,)),
    "parted.least_family": ((ELDEST, YOUNGEST, (1, 1, "above")), (CUSTOMS, SECOND, [
        (value, ("BadNumber", value)) for value in (None, 0, [1, 1, "above"], (1, 1), (True, 1, "above"),
                                                    (1, 1, "below"),
                                                    (1, 1, ["above"]), (2, 0, "none"))])),
    "parted.parting_family": ((ELDEST, YOUNGEST), (CUSTOMS, SECOND)),
    "parted.relations": ((ELDEST, YOUNGEST), (CUSTOMS, SECOND)),
    "parted.border": ((ELDEST, YOUNGEST), (CUSTOMS, SECOND)),
    "parted.parting_within": ((ELDEST, YOUNGEST, 2, 2), (CUSTOMS, SECOND, NUMBERS, NUMBERS + [(0, ("BadNumber", 0))])),
    "alike.are_alike": ((ELDEST, YOUNGEST), (CUSTOMS, SECOND)),
    "alike.alike_paper": ((ELDEST, YOUNGEST), (CUSTOMS, SECOND)),
    "alike.check_alike": ((ELDEST, YOUNGEST, ("part", (LEAF, (0, True, (0,))))), (CUSTOMS, SECOND, [
        (value, ("BadPaper", word)) for value, word in (
            (None, "form"), (["part", FAMILY], "form"), (("part",), "form"), (("alike", (), ()), "start"),
            (("part", None), "family"), (("part", (LEAF,)), "heirs"))])),
    "alike.alike_lots": (((ELDEST, YOUNGEST),), ([(value, ("BadCases", place)) for value, place in (
        (None, None), ([ELDEST], None), ((), None), ((ELDEST,) * 9, None), ((ELDEST, None), 1),
        ((ELDEST, TWO_MARKS[0]), 1))],)),
    "least.least_custom": ((ELDEST,), (CUSTOMS,)),
    "least.led_numbers": ((ELDEST,), (CUSTOMS,)),
    "least.size_of": ((ELDEST,), (CUSTOMS,)),
    "least.like_lots": ((ELDEST,), (CUSTOMS,)),
    "apart.put_row": ((FAMILY, (0,), (FAMILY, (LEAF,))), (ANY_FAMILIES, WAYS, ROWS)),
    "apart.line_outcome": ((ELDEST, FAMILY, (0,), FAMILY), (CUSTOMS, OWN_FAMILIES, WAYS, OWN_FAMILIES)),
    "apart.row_outcome": ((ELDEST, FAMILY, (0,), (FAMILY,)), (CUSTOMS, OWN_FAMILIES, WAYS, ROWS + [
        ((FAMILY, ((1, True, ()),)), ("BadRow", 1))])),
    "apart.parting_of_ranks": ((ELDEST, 0, 1), (CUSTOMS, STATES, STATES)),
    "apart.parting_of_stands": ((ELDEST, 0, 1), (CUSTOMS, STATES, STATES)),
    "apart.taking": ((ELDEST, 1), (CUSTOMS, STATES)),
    "apart.size_paper": ((ELDEST,), (CUSTOMS,)),
    "apart.check_size": ((ELDEST, ((FAMILY,), ((), (FAMILY,)), (), ((((0, False, ()),), ()),))), (CUSTOMS, [
        (value, ("BadPaper", word)) for value, word in (
            (None, "form"), ([(), (), (), ()], "form"), (((), (), (), None), "form"),
            (((FAMILY,) * 2, (), (), ()), "form"),
            (((FAMILY,) * 2, (), ((FAMILY, ()),), ()), "lines"), (((), ((), ()), (), ((FAMILY, ()),)), "rows"))])),
    "lots.check_lot": ((ELDEST,), (CUSTOMS,)),
    "lots.first_unlike": ((ELDEST, YOUNGEST, ((LEAF,), FAMILY)), (CUSTOMS, SECOND, [
        (value, told) for value, told in ROWS if not isinstance(value, tuple) or len(value) < 9])),
    "outcomes.look_behind": ((ELDEST, ("heir",), FAMILY, ()), (CUSTOMS, CHANGES, OWN_FAMILIES, WAYS + [
        ((0,), ("BadWay", (0,)))])),
    "outcomes.outcomes": ((ELDEST, ("birth", 0)), (CUSTOMS, CHANGES)),
    "outcomes.outcome_case": ((ELDEST, ("birth", 0), "newborn"), (CUSTOMS, CHANGES, [
        (value, ("BadName", value)) for value in (None, 0, "", "heir", ["none"], ("none",))])),
    "steady.is_steady": ((ELDEST,), (CUSTOMS,)),
    "steady.steady_paper": ((ELDEST,), (CUSTOMS,)),
    "steady.check_steady": ((ELDEST, STEADY), (CUSTOMS, [(value, ("BadPaper", word)) for value, word in (
        (None, "form"), (list(STEADY), "form"), (STEADY[:2], "form"), (STEADY[:2] + ((),), "steady"),
        (STEADY[:2] + (None,), "steady"), (("unsteady", None, ()), "unsteady"),
        (("unsteady", FAMILY, ()), "unsteady"))])),
    "lasting.is_lasting": ((ELDEST,), (CUSTOMS,)),
    "lasting.harm": ((ELDEST,), (CUSTOMS,)),
    "lasting.is_kept": ((ELDEST, FAMILY, (("death", ()),)), (CUSTOMS, FAMILIES, STORIES)),
}
