"""The later part of the interface: two customs for all families, least customs, changes, views, futures, deals."""

from tests.helper import ELDEST, YOUNGEST, narrow
from tests.interface_tables import CUSTOMS, FAMILIES, FAMILY, LEAF, NUMBERS, RULE, RULES, STORIES, WAYS

LATER_LISTED = {
    "ruled": ("custom_of(rule)", "rule_of(custom)"),
    "parted": ("least_family(custom, other, pair)", "parting_family(custom, other)", "relations(custom, other)",
               "border(custom, other)", "parting_within(custom, other, children, levels)"),
    "alike": ("are_alike(custom, other)", "alike_paper(custom, other)", "check_alike(custom, other, paper)",
              "alike_lots(customs)"),
    "least": ("least_custom(custom)", "led_numbers(custom)", "size_of(custom)", "like_lots(custom)"),
    "apart": ("put_row(family, way, row)", "line_outcome(custom, family, way, line)",
              "row_outcome(custom, family, way, row)", "parting_of_ranks(custom, rank, far_rank)",
              "parting_of_stands(custom, stand, far_stand)", "taking(custom, stand)", "size_paper(custom)",
              "check_size(custom, paper)"),
    "lots": ("check_lot(custom)", "first_unlike(custom, other, lot)"),
    "outcomes": ("look_behind(custom, change, family, way)", "outcomes(custom, change)",
                 "outcome_case(custom, change, word)"),
    "steady": ("is_steady(custom)", "steady_paper(custom)", "check_steady(custom, paper)"),
    "lasting": ("is_lasting(custom)", "harm(custom)", "is_kept(custom, family, story)"),
    "views": ("view_in(custom, other, family)", "views(custom, other)", "view_case(custom, other, view)"),
    "sentences": ("holds_in(custom, other, sentence, family)", "holds_always(custom, other, sentence)",
                  "case_against(custom, other, sentence)", "follows(custom, other, sentence, far_sentence)"),
    "futures": ("is_future(family, later)", "deeds_to(family, later)", "story_to(family, later)",
                "stories(family, later)", "between(family, later)", "latest_past(family, other)",
                "earliest_future(family, other)"),
    "chances": ("newborn_costs(custom)", "line_costs(custom, family)", "fewest(custom, family, wish, terms=())",
                "future_for(custom, family, wish, terms=())", "fits(custom, family, wish, terms, later)",
                "can_be_heir(custom, family)", "chance_at(custom, family, number)"),
    "opened": ("is_open(custom)", "closed_case(custom)"),
    "apparent": ("sure_line(custom, family, many)", "set_aside(custom, family, many)",
                 "paper_for(custom, family, wish, terms=())", "bound_for(custom, family, wish, terms=())",
                 "check_chance(custom, family, wish, terms, paper)"),
    "deals": ("need_deal(deal)", "dealt_lines(deal, family)"),
    "shares": ("share(deal, family, way)", "shares(deal, family)", "paid(deal, family)", "receivers(deal, family)"),
}

# of any number of members
ANY_FAMILIES = [(value, told) for value, told in FAMILIES if not isinstance(value, tuple) or len(value) < 10]
OWN_FAMILIES = ANY_FAMILIES + [((LEAF, (1, True, (0,))), ("BadFamily", 1))]
ROWS = [(value, ("BadRow", place)) for value, place in (
    (None, None), (0, None), ([], None), ([FAMILY], None), ((FAMILY,) * 9, None), ((None,), 0), ((FAMILY, ()), 1),
    ((FAMILY, FAMILY, [LEAF]), 2), (((3, True, ()),), 0), ((FAMILY, ((0, True, (0,)),)), 1))]
STATES = NUMBERS + [(2, ("BadNumber", 2))]
TWO_MARKS = ((2,) + ELDEST[1:4] + (ELDEST[4] * 2,), ("BadMarks", 2))
SECOND = CUSTOMS + [TWO_MARKS]
CHANGES = [(value, ("BadDeed", "form")) for value in (None, 0, "heir", [], ["heir"], ("heir", 0), ("birth",),
                                                     ("birth", 1), ("birth", True), ("stillbirth", -1))]
STEADY = ("steady", ((0, 0, "none"), (1, 0, "marked"), (1, 1, "marked"), (1, 1, "same")),
          ((0, 0, "none"), (1, 0, "marked"), (1, 1, "marked"), (1, 1, "same")))
VIEW = ("above", 0, 0, True, False)
SENTENCE = ("or", ("founder", "first"), ("not", ("mark", "second", 0)))
SENTENCES = [(value, ("BadSentence", place)) for value, place in (
    (None, ()), (0, ()), (list(SENTENCE), ()), (("founder",), ()), (("not", None), (1,)),
    (("and", SENTENCE, ("mark", "first", True)), (2,)), (("or", ("not", ("founder", 0)), None), (1, 1)))]
LATER = (LEAF, (0, False, ()), (0, False, (0, 1)), (0, False, (2, 0, 0)))
WIDE = (LEAF, (0, True, (0,) * 25))
LONG = tuple((0, True, (number - 1,) if number else ()) for number in range(101))
NEAR_FAMILIES = FAMILIES + [((LEAF, (1, True, (0,))), ("BadFamily", 1)), (LONG, ("TooGreat", 100)),
                            (WIDE, ("TooGreat", 24)), (narrow(10 ** 30 + 1), ("TooGreat", 10 ** 30))]
WISH = ("another", (0, 0))
WISHES = [(value, ("BadWish", word)) for value, word in (
    (None, "form"), (0, "form"), ("none", "form"), (["none"], "form"), (("heir",), "form"), (("none", ()), "form"),
    (("heir", None), "way"), (("another", [0]), "way"), (("heir", (True,)), "way"), (("heir", (2,)), "way"))]
TERMS = (((0,), "quiet"), ((1,), "dead"))
TERM_LISTS = [(value, ("BadTerms", place)) for value, place in (
    (None, None), (0, None), ([], None), (list(TERMS), None), (TERMS * 21, None), ((None,), 0),
    ((((0,), "dead"), ((0,), "dead")), 1), ((((0,), "lives"), ((1,), "die")), 1), ((((True,), "lives"),), 0),
    ((((1,), ["lives"]),), 0), (([(0,), "dead"],), 0))]
MANY = NUMBERS + [(0, ("BadNumber", 0)), (11, ("BadNumber", 11))]
DEAL = (1, (2, 1), ((1, 1), (0, 1)),
        ((((0, "lost"), (1, "lines")), ((0, "self"), (1, "lines"))),))
DEALS = [(value, ("BadDeal", word)) for value, word in (
    (None, "form"), (list(DEAL), "form"), ((True,) + DEAL[1:], "form"), ((1, [2, 1]) + DEAL[2:], "weights"),
    ((1, (2, True)) + DEAL[2:], "weights"), (DEAL[:2] + (((1, 1), (0, True)),) + DEAL[3:], "read"),
    (DEAL[:3] + (None,), "close"))]

LATER_WRONG = {
    "ruled.custom_of": ((RULE,), (RULES,)),
    "ruled.rule_of": ((ELDEST,), (CUSTOMS,)),
    "parted.least_family": ((ELDEST, YOUNGEST, (1, 1, "above")), (CUSTOMS, SECOND, [
        (value, ("BadNumber", value)) for value in (None, 0, [1, 1, "above"], (1, 1), (True, 1, "above"),
                                                    (1, 1, "below"),
                                                    (1, 1, ["above"]), (2, 0, "none"))])),
    "parted.parting_family": ((ELDEST, YOUNGEST), (CUSTOMS, SECOND)),
    "parted.relations": ((ELDEST, YOUNGEST), (CUSTOMS, SECOND)),
    "parted.border": ((ELDEST, YOUNGEST), (CUSTOMS, SECOND)),
    "parted.parting_within": ((ELDEST, YOUNGEST, 2, 2), (CUSTOMS, SECOND, NUMBERS, NUMBERS + [(0, ("BadNumber", 0))])),
    "alike.are_alike": ((ELDEST, YOUNGEST), (CUSTOMS, SECOND)),
    "alike.alike_paper": ((ELDEST, YOUNGEST), (CUSTOMS, SECOND)),
    "alike.check_alike": ((ELDEST, YOUNGEST, ("part", (LEAF, (0, True, (0,))))), (CUSTOMS, SECOND, [
        (value, ("BadPaper", word)) for value, word in (
            (None, "form"), (["part", FAMILY], "form"), (("part",), "form"), (("alike", (), ()), "start"),
            (("part", None), "family"), (("part", (LEAF,)), "heirs"))])),
    "alike.alike_lots": (((ELDEST, YOUNGEST),), ([(value, ("BadCases", place)) for value, place in (
        (None, None), ([ELDEST], None), ((), None), ((ELDEST,) * 9, None), ((ELDEST, None), 1),
        ((ELDEST, TWO_MARKS[0]), 1))],)),
    "least.least_custom": ((ELDEST,), (CUSTOMS,)),
    "least.led_numbers": ((ELDEST,), (CUSTOMS,)),
    "least.size_of": ((ELDEST,), (CUSTOMS,)),
    "least.like_lots": ((ELDEST,), (CUSTOMS,)),
    "apart.put_row": ((FAMILY, (0,), (FAMILY, (LEAF,))), (ANY_FAMILIES, WAYS, ROWS)),
    "apart.line_outcome": ((ELDEST, FAMILY, (0,), FAMILY), (CUSTOMS, OWN_FAMILIES, WAYS, OWN_FAMILIES)),
    "apart.row_outcome": ((ELDEST, FAMILY, (0,), (FAMILY,)), (CUSTOMS, OWN_FAMILIES, WAYS, ROWS + [
        ((FAMILY, ((1, True, ()),)), ("BadRow", 1))])),
    "apart.parting_of_ranks": ((ELDEST, 0, 1), (CUSTOMS, STATES, STATES)),
    "apart.parting_of_stands": ((ELDEST, 0, 1), (CUSTOMS, STATES, STATES)),
    "apart.taking": ((ELDEST, 1), (CUSTOMS, STATES)),
    "apart.size_paper": ((ELDEST,), (CUSTOMS,)),
    "apart.check_size": ((ELDEST, ((FAMILY,), ((), (FAMILY,)), (), ((((0, False, ()),), ()),))), (CUSTOMS, [
        (value, ("BadPaper", word)) for value, word in (
            (None, "form"), ([(), (), (), ()], "form"), (((), (), (), None), "form"),
            (((FAMILY,) * 2, (), (), ()), "form"),
            (((FAMILY,) * 2, (), ((FAMILY, ()),), ()), "lines"), (((), ((), ()), (), ((FAMILY, ()),)), "rows"))])),
    "lots.check_lot": ((ELDEST,), (CUSTOMS,)),
    "lots.first_unlike": ((ELDEST, YOUNGEST, ((LEAF,), FAMILY)), (CUSTOMS, SECOND, [
        (value, told) for value, told in ROWS if not isinstance(value, tuple) or len(value) < 9])),
    "outcomes.look_behind": ((ELDEST, ("heir",), FAMILY, ()), (CUSTOMS, CHANGES, OWN_FAMILIES, WAYS + [
        ((0,), ("BadWay", (0,)))])),
    "outcomes.outcomes": ((ELDEST, ("birth", 0)), (CUSTOMS, CHANGES)),
    "outcomes.outcome_case": ((ELDEST, ("birth", 0), "newborn"), (CUSTOMS, CHANGES, [
        (value, ("BadName", value)) for value in (None, 0, "", "heir", ["none"], ("none",))])),
    "steady.is_steady": ((ELDEST,), (CUSTOMS,)),
    "steady.steady_paper": ((ELDEST,), (CUSTOMS,)),
    "steady.check_steady": ((ELDEST, STEADY), (CUSTOMS, [(value, ("BadPaper", word)) for value, word in (
        (None, "form"), (list(STEADY), "form"), (STEADY[:2], "form"), (STEADY[:2] + ((),), "steady"),
        (STEADY[:2] + (None,), "steady"), (("unsteady", None, ()), "unsteady"),
        (("unsteady", FAMILY, ()), "unsteady"))])),
    "lasting.is_lasting": ((ELDEST,), (CUSTOMS,)),
    "lasting.harm": ((ELDEST,), (CUSTOMS,)),
    "lasting.is_kept": ((ELDEST, FAMILY, (("death", ()),)), (CUSTOMS, FAMILIES, STORIES)),
    "views.view_in": ((ELDEST, YOUNGEST, FAMILY), (CUSTOMS, SECOND, OWN_FAMILIES)),
    "views.views": ((ELDEST, YOUNGEST), (CUSTOMS, SECOND)),
    "views.view_case": ((ELDEST, YOUNGEST, VIEW), (CUSTOMS, SECOND, [
        (value, ("BadName", value)) for value in (None, 0, "same", [], list(VIEW), VIEW[:4], ("Same",) + VIEW[1:],
                                                  ("same", True) + VIEW[2:], VIEW[:4] + (1,),
                                                  VIEW[:2] + (3,) + VIEW[3:])])),
    "sentences.holds_in": ((ELDEST, YOUNGEST, SENTENCE, FAMILY), (CUSTOMS, SECOND, SENTENCES, OWN_FAMILIES)),
    "sentences.holds_always": ((ELDEST, YOUNGEST, SENTENCE), (CUSTOMS, SECOND, SENTENCES)),
    "sentences.case_against": ((ELDEST, YOUNGEST, SENTENCE), (CUSTOMS, SECOND, SENTENCES)),
    "sentences.follows": ((ELDEST, YOUNGEST, SENTENCE, SENTENCE), (CUSTOMS, SECOND, SENTENCES, SENTENCES)),
    "futures.is_future": ((FAMILY, LATER), (FAMILIES, FAMILIES)),
    "futures.deeds_to": ((FAMILY, LATER), (FAMILIES, FAMILIES)),
    "futures.story_to": ((FAMILY, LATER), (FAMILIES, FAMILIES)),
    "futures.stories": ((FAMILY, LATER), (FAMILIES, FAMILIES)),
    "futures.between": ((FAMILY, LATER), (FAMILIES, FAMILIES)),
    "futures.latest_past": ((FAMILY, LATER), (FAMILIES, FAMILIES)),
    "futures.earliest_future": ((FAMILY, LATER), (FAMILIES, FAMILIES)),
    "chances.newborn_costs": ((ELDEST,), (CUSTOMS,)),
    "chances.line_costs": ((ELDEST, FAMILY), (CUSTOMS, NEAR_FAMILIES)),
    "chances.fewest": ((ELDEST, FAMILY, WISH, TERMS), (CUSTOMS, NEAR_FAMILIES, WISHES, TERM_LISTS)),
    "chances.future_for": ((ELDEST, FAMILY, WISH, TERMS), (CUSTOMS, NEAR_FAMILIES, WISHES, TERM_LISTS)),
    "chances.fits": ((ELDEST, FAMILY, WISH, TERMS, LATER), (CUSTOMS, NEAR_FAMILIES, WISHES, TERM_LISTS, FAMILIES + [
        ((LEAF, (1, True, ())), ("BadFamily", 1))])),
    "chances.can_be_heir": ((ELDEST, FAMILY), (CUSTOMS, NEAR_FAMILIES)),
    "chances.chance_at": ((ELDEST, FAMILY, 1), (CUSTOMS, NEAR_FAMILIES, NUMBERS + [(9, ("BadNumber", 9))])),
    "opened.is_open": ((ELDEST,), (CUSTOMS,)),
    "opened.closed_case": ((ELDEST,), (CUSTOMS,)),
    "apparent.sure_line": ((ELDEST, FAMILY, 3), (CUSTOMS, NEAR_FAMILIES, MANY)),
    "apparent.set_aside": ((ELDEST, FAMILY, 3), (CUSTOMS, NEAR_FAMILIES, MANY)),
    "apparent.paper_for": ((ELDEST, FAMILY, WISH, TERMS), (CUSTOMS, NEAR_FAMILIES, WISHES, TERM_LISTS)),
    "apparent.bound_for": ((ELDEST, FAMILY, WISH, TERMS), (CUSTOMS, NEAR_FAMILIES, WISHES, TERM_LISTS)),
    "apparent.check_chance": ((ELDEST, FAMILY, ("heir", ()), (), ("future", FAMILY)), (
        CUSTOMS, NEAR_FAMILIES, WISHES, TERM_LISTS, [(value, ("BadPaper", word)) for value, word in (
            (None, "form"), (["future", FAMILY], "form"), (("future", None), "form"), (("bound", 0), "form"),
            (("future", (LEAF,)), "later"))])),
    "deals.need_deal": ((DEAL,), (DEALS,)),
    "deals.dealt_lines": ((DEAL, FAMILY), (DEALS, FAMILIES + [((LEAF, (1, True, (0,))), ("BadFamily", 1))])),
    "shares.share": ((DEAL, FAMILY, (0,)), (DEALS, FAMILIES, WAYS)),
    "shares.shares": ((DEAL, FAMILY), (DEALS, FAMILIES)),
    "shares.paid": ((DEAL, FAMILY), (DEALS, FAMILIES)),
    "shares.receivers": ((DEAL, FAMILY), (DEALS, FAMILIES)),
}
