"""The interface of deals beside deals, renouncing, rolls, cases and lessons, for test_interface."""

from tests.helper import ELDEST, YOUNGEST, with_members
from tests.interface_later import ANY_FAMILIES, DEAL, DEALS, OWN_FAMILIES, SECOND
from tests.interface_tables import CUSTOMS, FAMILIES, FAMILY, LEAF, NUMBERS, WAYS

DEALS_LISTED = {
    "factors": ("factor(deal, other)", "deals_alike(deal, other)", "bound(deal, other)",
                "is_bound(deal, other, paper)"),
    "growing": ("growth(deal, other)", "grown(paper, many)", "limit(deal, other, paper)"),
    "bent": ("bent(deal, word, old_mark, new_mark=None)",),
    "renouncing": ("need_renouncers(family, lot)", "behind_lot(family, lot)",
                   "fewest_renouncing(custom, family, way)", "renouncing_lot(custom, family, way)",
                   "all_fewest(custom, family)", "floor_paper(custom, family, way)",
                   "floor_shows(custom, family, way, paper)"),
    "rolls": ("need_roll(roll)", "is_member(roll, way)", "is_filling(roll, family)",
              "may_be_heir(custom, roll, way)", "surely_is_heir(custom, roll, way)", "may_be_none(custom, roll)",
              "sure_heir(custom, roll)", "possible_heirs(custom, roll)", "many_fillings(roll)",
              "many_with(custom, roll, way)", "surely_agree(custom, other, roll)",
              "filling_holds(custom, roll, way, paper)"),
    "fillings": ("filling_with(custom, roll, way)", "differing_filling(custom, other, roll)"),
    "cases": ("need_cases(cases)", "misfits(custom, cases)", "fitting(customs, cases)",
              "heirs_by(customs, cases, family)", "parting_all(customs)", "all_paper(customs)",
              "all_paper_shows(customs, paper)"),
    "lessons": ("found_out(custom, most)",),
}

TWO_MARK_DEAL = (2,) + DEAL[1:3] + (DEAL[3] * 2,)
SECOND_DEALS = DEALS + [(TWO_MARK_DEAL, ("BadMarks", 2))]
# half of the weight for a living child
HALF = (1, (2, 4), DEAL[2], DEAL[3])
BOUND = ((1, 1), (((0, 0), (1, 1)), ((1, 1), (1, 1))))
BOUNDS = [(value, ("BadPaper", "bound")) for value in (
    None, 0, [], list(BOUND), ((1, 1),), ((2, 2), ()), ((True, 1), ()), ([1, 1], ()), ((1, 0), ()), ((-1, 1), ()),
    ((1, 1), []), ((1, 1), (None,)), ((1, 1), (((2, 0), (1, 1)),)), ((1, 1), (((0, True), (1, 1)),)),
    ((1, 1), (((0, 0), (2, 4)),)), ((1, 1), (((0, 0), (1, 1), 0),)), ((1, 1), (((0, 2), (1, 1)),)),
    ((1, 1), (((0,), (1, 1)),)), ((1, 1), ((None, (1, 1)),)), ((1, 1), (([0, 0], (1, 1)),)), ((1, 1), (((0, 0), 1),)),
    ((1, 1), (((0, -1), (1, 1)),)), (None, ()), ((1, 1, 1), ()), ((1,), ()), ((1, True), ()), ((0, 2), ()))]
GROWTH = ((LEAF,), ((0, True, (), (), ()), (0, True, (0, 0, -1), (), ())), ())
GROWTHS = [(value, ("BadPaper", "growth")) for value in (
    None, 0, [], list(GROWTH), GROWTH[:2], ([], GROWTH[1], ()), (((0, True, (0,)),), GROWTH[1], ()), ((LEAF,), (), ()),
    ((LEAF,), [GROWTH[1][0]], ()), ((LEAF,), GROWTH[1][1:], ()), ((LEAF,), ((True, True, (), (), ()),), ()),
    ((LEAF,), ((0, 1, (), (), ()),), ()), ((LEAF,), ((0, True, (), (0,), ()),), ()),
    ((LEAF,), GROWTH[1][:1] + ((0, True, (-1,), (), (-1,)),), ()),
    ((LEAF,), GROWTH[1][:1] + ((0, True, (-1, -1), (), ()),), ()),
    ((LEAF,), GROWTH[1][:1] + ((0, True, (0,), (-1,), ()),), ()),
    ((LEAF,), GROWTH[1][:1] + ((0, True, (-1,), (1,), ()),), ()),
    ((LEAF,), GROWTH[1][:1] + ((0, True, (-1,), [], ()),), ()),
    ((LEAF,), GROWTH[1][:1] + (list(GROWTH[1][1]),), ()), ((LEAF,), GROWTH[1][:1] + (GROWTH[1][1][:4],), ()),
    ((LEAF,), GROWTH[1][:1] + (GROWTH[1][1] + ((),),), ()), ((LEAF,), ((0, True, (), (), (-1,)),), ()),
    ((LEAF,), ((0, True, (-1,), (), ()),), ()), ((LEAF,), GROWTH[1][:1] + ((0, True, (1,), (), (-1,)),), ()),
    ((LEAF,), GROWTH[1][:1] + ((0, True, (-1,), (), (1,)),), ()), (((3, True, ()),), GROWTH[1], ()),
    ((LEAF,), GROWTH[1][:1] + ((0, True, (-1,) + (0,) * 600, (), ()),), ()),
    ((LEAF,), GROWTH[1][:1] + ((0, True, (-1,), (0,) * 601, ()),), ()), ((LEAF,), GROWTH[1][:1] + GROWTH[1][1:] * 200, ()),
    ((LEAF,), GROWTH[1][:1] + ((0, True, (0,), (), ()),), ()), ((LEAF,), GROWTH[1][:1] + ((0, True, (), (), (0,)),), ()),
    ((LEAF,), GROWTH[1][:1] + ((3, True, (-1,), (), ()),), ()), ((LEAF,), GROWTH[1], None), ((LEAF,), GROWTH[1], []), ((LEAF,), GROWTH[1], (0, 1)), ((LEAF,), GROWTH[1], (1, 1)),
    ((LEAF,), GROWTH[1], (1, 3)), ((LEAF,), GROWTH[1], (True, 2)), ((LEAF,), GROWTH[1], (1,)))]
LOTS = [(value, ("BadWay", value)) for value in (None, 0, [], [(1,)])]
LOTS += [(value, ("BadWay", item)) for value, item in (
    ((None,), None), (((0,),), (0,)), (((1,), [1, 0]), [1, 0]), (((0, 1), (0, 0)), (0, 0)), ((((),) * 2), ()),
    (((True,),), (True,)), (((1,), (2,)), (2,)))]
# a leaf, a dead member over two, the living founder; the way up from a leaf
FLOOR = (((1, 0), (2, 0), (4, 0)), (((None, None), (0, None)), ((None, None), (1, 0)), ((None, None), (2, 0))))
FLOORS = [(value, ("BadPaper", word)) for value, word in (
    (None, "form"), ([(), ()], "form"), (((), ()), "form"), ((FLOOR[0], None), "form"), ((FLOOR[0][:2], FLOOR[1]), "form"),
    ((FLOOR[0], FLOOR[1][:2]), "form"), ((FLOOR[0], FLOOR[1][:2] + (((None, None), (-1, 0)),)), "form"),
    ((((1, True), (2, 0), (4, 0)), FLOOR[1]), "form"), ((((1, 0), (3, 0), (4, 0)), FLOOR[1]), "lines"),
    ((FLOOR[0], FLOOR[1][:2] + (((None, None), (3, 0)),)), "way"))]
ROLL = (((0,), "open", (), True), ((0, 1), "dead", (0, 0), False), ((0,), "living", (1, 0), True))
OWN_ROLL = (((0,), "open", (), True), ((0,), "dead", (0, 0), False), ((0,), "living", (1, 0), True))
ROLLS = [(value, ("BadRoll", None)) for value in (None, 0, [], (), list(ROLL), tuple(
    line[:0] + ((line[0],), "living", line[2], True) for line in with_members(10 ** 60 + 1)))]
ROLLS += [(ROLL[:1] + (value,), ("BadRoll", 1)) for value in (
    None, list(ROLL[0]), ROLL[0][:3], ((), "open", (), True), ([0], "open", (), True), ((0, 0), "open", (), True),
    ((1, 0), "open", (), True), ((True,), "open", (), True), ((3,), "open", (), True), ((0,), "alive", (), True),
    ((0,), None, (), True), ((0,), ["open"], (), True), ((0,), "open", [], True), ((0,), "open", (1,), True),
    ((0,), "open", (True,), True), ((0,), "open", (), 1), ((0,), "open", (0,) * 6, False),
    ((0,), "open", (0,) * 601, True), ((0, 1, 2, 3), "open", (), True))]
OWN_ROLLS = ROLLS + [(ROLL, ("BadRoll", 1))]
ROLL_PAPERS = [(value, ("BadPaper", "form")) for value in (
    None, 0, [], ((LEAF,),), [(LEAF,), ()], ((), ()), (((1, True, ()),), ()), ((LEAF,), (0,)), ((LEAF,), None),
    ((LEAF,), [0]), ((LEAF, (0, True, (0,))), (False,)))]
CASES = ((FAMILY, (1,)), (FAMILY, None), ((LEAF,), ()))
CASE_LISTS = [(value, ("BadCases", place)) for value, place in (
    (None, None), (0, None), ([], None), (CASES * 2001, None), ((None,), 0), ((CASES[0], list(CASES[0])), 1),
    (((FAMILY, (0,)),), 0), (((FAMILY, (2,)),), 0), (((FAMILY, [1]),), 0), (((FAMILY, (True,)),), 0),
    ((CASES[0], (FAMILY,)), 1), ((CASES[0], ((), ())), 1), (((with_members(10 ** 60 + 1), ()),), 0))]
OWN_CASES = CASE_LISTS + [((CASES[0], (((1, True, ()),), None)), ("BadCases", 1))]
MANY_CUSTOMS = [(value, ("BadCustom", "customs")) for value in (None, 0, [], (), [ELDEST], (ELDEST,) * 13)]
MANY_CUSTOMS += [((ELDEST, None), ("BadCustom", "form")), ((ELDEST, SECOND[-1][0], ELDEST[:4] + (0,)),
                                                          ("BadCustom", "close")),
                 ((ELDEST, SECOND[-1][0]), ("BadMarks", 2))]
FEW_CUSTOMS = MANY_CUSTOMS + [((ELDEST,), ("BadCustom", "customs")), ((ELDEST,) * 4, ("BadCustom", "customs"))]
NEVER = ("never", (((0, 0), ("none",)),), (((0, 0), ("none",)),))
ALL_PAPERS = [(value, ("BadPaper", word)) for value, word in (
    (None, "form"), (0, "form"), (("nope",) + NEVER[1:], "form"), (NEVER + ((),), "form"),
    (("never", (None,), ()), "form"), (("never", ((0, 0),), ()), "form"), (("never", (((0, 0),),), ()), "form"),
    (("never", (((0, 0), ("none",), 0),), ()), "form"), (("never", (((0,), ("none",)),), ()), "form"),
    (("never", (((0, 0, 0), ("none",)),), ()), "form"), (("never", (((0, 0), ("none",) * 2),), ()), "form"), (list(NEVER), "form"), (NEVER[:2] + ([],), "form"), (("part",), "form"),
    (("never", (((0, 2), ("none",)),), ()), "form"), (("never", (((0, 0), ("no",)),), ()), "form"),
    (("never", NEVER[1] * 2, ()), "form"), (("never", (((0, True), ("none",)),), ()), "form"),
    (("never", (((0, 0), ()),), ()), "form"), (("never", (((0, 0), ["none"]),), ()), "form"),
    (("never", ((([0, 0]), ("none",)),), ()), "form"), (("never", (), ()), "table"), (NEVER, "table"),
    (("part", None), "family"), (("part", ((1, True, ()),)), "family"), (("part", (LEAF,)), "family"))]
MOST = [(value, ("BadNumber", value)) for value in (None, True, "0", [], -1, 101)]

DEALS_WRONG = {
    "factors.factor": ((DEAL, HALF), (DEALS, SECOND_DEALS)),
    "factors.deals_alike": ((DEAL, HALF), (DEALS, SECOND_DEALS)),
    "factors.bound": ((DEAL, HALF), (DEALS, SECOND_DEALS)),
    "factors.is_bound": ((DEAL, DEAL, BOUND), (DEALS, SECOND_DEALS, BOUNDS)),
    "growing.growth": ((DEAL, HALF), (DEALS, SECOND_DEALS)),
    "growing.grown": ((GROWTH, 2), (GROWTHS, [(value, ("BadNumber", value)) for value in (None, True, 0, 41, "1")])),
    "growing.limit": ((DEAL, HALF, GROWTH), (DEALS, SECOND_DEALS, GROWTHS)),
    "bent.bent": ((DEAL, "death", 0, None), (DEALS + [
        ((3,) + DEAL[1:3] + (DEAL[3] * 3,), ("BadDeal", "marks")),
        ((1, (1,) * 4, ((0,) * 4,), ((((0, "lost"),),) * 2,)), ("BadDeal", "ranks")),
        ((1, (1,), ((0,),) * 3, ((((0, "lost"),) * 3,) * 2,)), ("BadDeal", "stands"))],
        [(value, ("BadDeed", "form")) for value in (None, 0, "Death", ["death"], ("death",), "")],
        NUMBERS + [(1, ("BadNumber", 1))], [(value, ("BadNumber", value)) for value in (0, 1, True, False, "", ())])),
    "renouncing.need_renouncers": ((FAMILY, ((0, 0), (1,))), (ANY_FAMILIES, LOTS)),
    "renouncing.behind_lot": ((FAMILY, ((0, 0), (1,))), (FAMILIES, LOTS)),
    "renouncing.fewest_renouncing": ((ELDEST, FAMILY, (0, 1)), (CUSTOMS, OWN_FAMILIES, WAYS)),
    "renouncing.renouncing_lot": ((ELDEST, FAMILY, (0, 1)), (CUSTOMS, OWN_FAMILIES, WAYS)),
    "renouncing.all_fewest": ((ELDEST, FAMILY), (CUSTOMS, OWN_FAMILIES)),
    "renouncing.floor_paper": ((ELDEST, FAMILY, (0, 1)), (CUSTOMS, OWN_FAMILIES, WAYS)),
    "renouncing.floor_shows": ((ELDEST, FAMILY, (0, 1), FLOOR), (CUSTOMS, OWN_FAMILIES, WAYS, FLOORS)),
    "rolls.need_roll": ((ROLL,), (ROLLS,)),
    "rolls.is_member": ((ROLL, (0, 1)), (ROLLS, [])),
    "rolls.is_filling": ((ROLL, FAMILY), (ROLLS, ANY_FAMILIES)),
    "rolls.may_be_heir": ((ELDEST, OWN_ROLL, (0, 1)), (CUSTOMS, OWN_ROLLS, WAYS)),
    "rolls.surely_is_heir": ((ELDEST, OWN_ROLL, (0, 1)), (CUSTOMS, OWN_ROLLS, WAYS)),
    "rolls.may_be_none": ((ELDEST, OWN_ROLL), (CUSTOMS, OWN_ROLLS)),
    "rolls.sure_heir": ((ELDEST, OWN_ROLL), (CUSTOMS, OWN_ROLLS)),
    "rolls.possible_heirs": ((ELDEST, OWN_ROLL), (CUSTOMS, OWN_ROLLS)),
    "rolls.many_fillings": ((ROLL,), (ROLLS,)),
    "rolls.many_with": ((ELDEST, OWN_ROLL, (0, 1)), (CUSTOMS, OWN_ROLLS, WAYS[1:])),
    "rolls.surely_agree": ((ELDEST, YOUNGEST, OWN_ROLL), (CUSTOMS, SECOND, OWN_ROLLS)),
    "rolls.filling_holds": ((ELDEST, OWN_ROLL, (0, 1), (FAMILY, (0, 0))), (CUSTOMS, OWN_ROLLS, WAYS, ROLL_PAPERS)),
    "fillings.filling_with": ((ELDEST, OWN_ROLL, (0, 1)), (CUSTOMS, OWN_ROLLS, WAYS)),
    "fillings.differing_filling": ((ELDEST, YOUNGEST, OWN_ROLL), (CUSTOMS, SECOND, OWN_ROLLS)),
    "cases.need_cases": ((CASES,), (CASE_LISTS,)),
    "cases.misfits": ((ELDEST, CASES), (CUSTOMS, OWN_CASES)),
    "cases.fitting": (((ELDEST, YOUNGEST), CASES), (MANY_CUSTOMS, OWN_CASES)),
    "cases.heirs_by": (((ELDEST, YOUNGEST), CASES[2:], FAMILY), (MANY_CUSTOMS, OWN_CASES, OWN_FAMILIES)),
    "cases.parting_all": (((ELDEST, YOUNGEST),), (FEW_CUSTOMS,)),
    "cases.all_paper": (((ELDEST, YOUNGEST),), (FEW_CUSTOMS,)),
    "cases.all_paper_shows": (((ELDEST, YOUNGEST), ("part", (LEAF, (0, True, (0,))))), (FEW_CUSTOMS, ALL_PAPERS)),
    "lessons.found_out": ((ELDEST, 5), (CUSTOMS, MOST)),
}
