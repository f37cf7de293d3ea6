"""The greatest fraction of what one deal gives that another one leaves to everybody, for all families."""

from heirlines.checks import is_ascending, is_between
from heirlines.customs import is_pair
from heirlines.errors import BadPaper
from heirlines.parts import NOTHING, WHOLE, in_lowest, is_less, is_lowest
from heirlines.weighing import LeastParts, Weighing, need_deals


def factor(deal, other):
    """The FACTOR of the deal beside the other one, or None."""
    need_deals(deal, other)
    return LeastParts(Weighing(deal, other)).least_of_all()


def deals_alike(deal, other):
    """Whether both give all members of all families the same."""
    return factor(deal, other) in (WHOLE, None) and factor(other, deal) in (WHOLE, None)


def bound(deal, other):
    """The BOUND, or None if nobody has anything by the other one."""
    need_deals(deal, other)
    found = LeastParts(Weighing(deal, other))
    if found.least_of_all() is None:
        return None
    return found.least_of_all(), tuple([(pair, found.parts[pair]) for pair in sorted(list(found.parts))])


def is_ranks(value, deal, other):
    """Whether a value is a pair of ranks of both deals."""
    if not is_pair(value) or not is_between(value[0], 0, len(deal[1]) - 1):
        return False
    return is_between(value[1], 0, len(other[1]) - 1)


def is_bound_form(value, deal, other):
    """Whether a value is a fraction and pairs of a pair of ranks and a fraction."""
    if not is_pair(value) or not is_lowest(value[0]) or not isinstance(value[1], tuple):
        return False
    return all([is_pair(item) and is_ranks(item[0], deal, other) and is_lowest(item[1]) for item in value[1]])


def is_bound(deal, other, paper):
    """Whether a paper shows its FACTOR."""
    need_deals(deal, other)
    if not is_bound_form(paper, deal, other):
        raise BadPaper("bound")
    weighing = Weighing(deal, other)
    parts = dict(paper[1])
    if not is_ascending([pair for pair, _ in paper[1]]) or sorted(list(parts)) != sorted(list(weighing.gains)):
        return False
    if not parts or any([is_less(part, paper[0]) for part in list(parts.values())]):
        return False
    return paper[0] in list(parts.values()) and holds(weighing, parts)


def holds(weighing, parts):
    """Whether no member has less than these fractions tell."""
    for closing in weighing.closings:
        own = closing.own()
        if own is not None and is_less(own, parts[closing.ranks]):
            return False
    return all([is_kept(weighing, closing, child, parts) for closing, child in weighing.edges])


def is_kept(weighing, closing, child, parts):
    """Whether no row leads from a child's fraction to less than that of the member's line."""
    wanted = parts[closing.ranks]
    if wanted == NOTHING:
        return True
    if parts[child] == NOTHING or weighing.is_cut(closing, child):
        return False
    due = in_lowest(wanted[0] * parts[child][1], wanted[1] * parts[child][0])
    return not is_less(weighing.sure_part(closing, child), due) or not is_less(
        weighing.least_part(closing, child), due)
