"""Deals: the tables by which a whole is shared among the members of a family."""

from heirlines.checks import is_between, is_number_row
from heirlines.customs import MOST_STATES, is_pair
from heirlines.errors import BadDeal
from heirlines.lines import need_family

MOST_WEIGHT = 99
TAKES = ("lines", "lost")


def is_weights(value):
    """Whether a value is a tuple of 1 to 8 weights."""
    return is_number_row(value, MOST_STATES, MOST_WEIGHT) and len(value) > 0


def is_deal_read(value, ranks):
    """Whether a value is READ for so many ranks."""
    if not isinstance(value, tuple) or not 1 <= len(value) <= MOST_STATES:
        return False
    return all([is_number_row(row, ranks, len(value) - 1) and len(row) == ranks for row in value])


def is_takes(value, stands, ranks, words):
    """Whether a value is DEAD or LIVING for so many stands and ranks, with these words."""
    if not isinstance(value, tuple) or len(value) != stands:
        return False
    return all([is_pair(cell) and is_between(cell[0], 0, ranks - 1) and cell[1] in words for cell in value])


def is_deal_close(value, marks, stands, ranks):
    """Whether a value is CLOSE for so many marks, stands and ranks."""
    if not isinstance(value, tuple) or len(value) != marks:
        return False
    for pair in value:
        if not is_pair(pair) or not is_takes(pair[0], stands, ranks, TAKES):
            return False
        if not is_takes(pair[1], stands, ranks, TAKES + ("self",)):
            return False
    return True


def deal_fault(value):
    """The first word that tells what is wrong with a deal, or None."""
    if not isinstance(value, tuple) or len(value) != 4 or not is_between(value[0], 1, 3):
        return "form"
    marks, weights, read, close = value
    if not is_weights(weights):
        return "weights"
    if not is_deal_read(read, len(weights)):
        return "read"
    if not is_deal_close(close, marks, len(read), len(weights)):
        return "close"
    return None


def need_deal(deal):
    """Return the deal itself, or raise BadDeal."""
    word = deal_fault(deal)
    if word is not None:
        raise BadDeal(word)
    return deal


def need_dealt(deal, family):
    """Raise unless this is a deal and a family of its marks."""
    need_deal(deal)
    need_family(family, deal[0])


def taken(deal, lines):
    """The rank and TAKE of each line, for a family that is known to be one."""
    pairs = []
    for mark, is_alive, children in lines:
        stand = 0
        for child in children:
            stand = deal[2][stand][pairs[child][0]]
        pairs.append(deal[3][mark][1 if is_alive else 0][stand])
    return tuple(pairs)


def dealt_lines(deal, family):
    """The rank and TAKE of each line, needed or not."""
    need_dealt(deal, family)
    return taken(deal, family)
