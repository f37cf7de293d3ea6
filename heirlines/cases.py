"""Cases that were decided, the customs that fit them, and what parts customs at once."""

from heirlines.allsearch import AllSearch, is_closed, pairs_of
from heirlines.checks import is_ascending, is_between
from heirlines.customs import is_pair, need_custom
from heirlines.errors import BadCases, BadCustom, BadFamily, BadMarks, BadPaper
from heirlines.lines import is_told, need_family
from heirlines.readings import heir_in
from heirlines.relations import RELATIONS
from heirlines.ways import member_path

MOST_CASES = 6000
MOST_CUSTOMS = 12
TWO_OR_THREE = (2, 3)


def is_right_family(value, marks):
    """Whether a value is a FAMILY of so many marks."""
    try:
        need_family(value, marks)
    except BadFamily:
        return False
    return True


def is_living(family, way):
    """Whether a value is the WAY of a living member."""
    path = member_path(family, way)
    return path is not None and family[path[-1]][1]


def is_case(value, marks):
    """Whether a value is a CASE of so many marks."""
    if not is_pair(value) or not is_right_family(value[0], marks):
        return False
    return value[1] is None or is_living(value[0], value[1])


def need_cases_of(cases, marks):
    """Return the CASES themselves, or raise BadCases."""
    if not isinstance(cases, tuple) or len(cases) > MOST_CASES:
        raise BadCases(None)
    for number, item in enumerate(cases):
        if not is_case(item, marks):
            raise BadCases(number)
    return cases


def need_cases(cases):
    """Return the CASES themselves, or raise BadCases."""
    return need_cases_of(cases, 3)


def need_customs(customs, least, most):
    """Raise unless this is a tuple of so many customs of as many marks."""
    if not isinstance(customs, tuple) or not least <= len(customs) <= most:
        raise BadCustom("customs")
    for custom in customs:
        need_custom(custom)
    for custom in customs:
        if custom[0] != customs[0][0]:
            raise BadMarks(custom[0])


def has_right_heir(custom, case):
    """Whether the custom names the HEIR of the case."""
    return heir_in(custom, case[0]) == case[1]


def fits_all(custom, cases):
    """Whether the custom names the HEIR of each case."""
    for case in cases:
        if not has_right_heir(custom, case):
            return False
    return True


def misfits(custom, cases):
    """The numbers of the cases whose HEIR the custom doesn't name."""
    need_custom(custom)
    need_cases_of(cases, custom[0])
    return tuple([number for number, case in enumerate(cases) if not has_right_heir(custom, case)])


def fitting(customs, cases):
    """The numbers of the customs that fit."""
    need_customs(customs, 1, MOST_CUSTOMS)
    need_cases_of(cases, customs[0][0])
    return tuple([number for number, custom in enumerate(customs) if fits_all(custom, cases)])


def heirs_by(customs, cases, family):
    """The heirs of the family by the customs that fit, each once."""
    numbers = fitting(customs, cases)
    need_family(family, customs[0][0])
    heirs = {heir_in(customs[number], family): True for number in numbers}
    return tuple(list(heirs))


def need_few_customs(customs):
    """Raise unless these are two or three customs of as many marks."""
    need_customs(customs, TWO_OR_THREE[0], TWO_OR_THREE[1])


def parting_all(customs):
    """A least family that parts two or three customs at once, or None."""
    need_few_customs(customs)
    return AllSearch(customs).least_parting()


def all_paper(customs):
    """A PAPER that shows whether some family parts the customs at once."""
    need_few_customs(customs)
    search = AllSearch(customs)
    family = search.least_parting()
    if family is not None:
        return "part", family
    return "never", tuple(sorted(list(search.lines))), tuple(sorted(list(search.rows)))


def is_state(value, holds):
    """Whether a value is a pair of numbers in all of holds, and of a RELATION for each two of them."""
    if not is_pair(value) or not isinstance(value[0], tuple) or len(value[0]) != len(holds):
        return False
    if not all([is_between(number, 0, len(row) - 1) for number, row in zip(value[0], holds)]):
        return False
    if not isinstance(value[1], tuple) or len(value[1]) != len(pairs_of(holds)):
        return False
    return all([word in RELATIONS for word in value[1]])


def is_states(value, holds):
    """Whether a value is an ascending tuple of states."""
    return isinstance(value, tuple) and all([is_state(item, holds) for item in value]) and is_ascending(value)


def is_all_paper(customs, value):
    """Whether a value has the form of a PAPER on the customs."""
    if not isinstance(value, tuple):
        return False
    if len(value) == 2:
        return value[0] == "part"
    if len(value) != 3 or value[0] != "never":
        return False
    ranks = [custom[2] for custom in customs]
    stands = [custom[1] for custom in customs]
    return is_states(value[1], ranks) and is_states(value[2], stands)


def all_paper_shows(customs, paper):
    """What a right PAPER shows: "parted" or "never"."""
    need_few_customs(customs)
    if not is_all_paper(customs, paper):
        raise BadPaper("form")
    if paper[0] == "never":
        if not is_closed(customs, paper[1], paper[2]):
            raise BadPaper("table")
        return "never"
    if not is_told(paper[1], customs[0][0]):
        raise BadPaper("family")
    heirs = [heir_in(custom, paper[1]) for custom in customs]
    if len({heir: True for heir in heirs}) < len(heirs):
        raise BadPaper("family")
    return "parted"
