"""Customs: the tables by which families are read."""

from heirlines.checks import is_ascending, is_between, is_number_row, is_truth
from heirlines.errors import BadCustom, BadMarks, BadNumber

MOST_STATES = 8


def is_truth_row(value):
    """Whether a value is a tuple of 1 to 8 truths."""
    if not isinstance(value, tuple) or not 1 <= len(value) <= MOST_STATES:
        return False
    return all([is_truth(item) for item in value])


def is_pair(value):
    """Whether a value is a pair."""
    return isinstance(value, tuple) and len(value) == 2


def is_cell(value, holds, words):
    """Whether a value is a pair of a number in holds and the word that goes with it.

    The words are those that may stand where a claimant is held.
    """
    if not is_pair(value) or not is_between(value[0], 0, len(holds) - 1):
        return False
    if not holds[value[0]]:
        return value[1] == "none"
    return value[1] in words


def is_read(value, stands, ranks):
    """Whether a value is READ for these stands and ranks."""
    if not isinstance(value, tuple) or len(value) != len(stands):
        return False
    for stand, row in enumerate(value):
        if not isinstance(row, tuple) or len(row) != len(ranks):
            return False
        for rank, cell in enumerate(row):
            old = ("old",) if stands[stand] else ()
            new = ("new",) if ranks[rank] else ()
            if not is_cell(cell, stands, old + new):
                return False
    return True


def is_close_row(value, stands, ranks, own):
    """Whether a value is DEAD or LIVING; own are the words for the member itself."""
    if not isinstance(value, tuple) or len(value) != len(stands):
        return False
    for stand, cell in enumerate(value):
        line = ("line",) if stands[stand] else ()
        if not is_cell(cell, ranks, line + own):
            return False
    return True


def is_close(value, marks, stands, ranks):
    """Whether a value is CLOSE for these marks, stands and ranks."""
    if not isinstance(value, tuple) or len(value) != marks:
        return False
    for pair in value:
        if not is_pair(pair) or not is_close_row(pair[0], stands, ranks, ()):
            return False
        if not is_close_row(pair[1], stands, ranks, ("self",)):
            return False
    return True


def custom_fault(value):
    """The first word that tells what is wrong with a custom, or None."""
    if not isinstance(value, tuple) or len(value) != 5 or not is_between(value[0], 1, 3):
        return "form"
    marks, stands, ranks, read, close = value
    if not is_truth_row(stands) or stands[0]:
        return "stands"
    if not is_truth_row(ranks):
        return "ranks"
    if not is_read(read, stands, ranks):
        return "read"
    if not is_close(close, marks, stands, ranks):
        return "close"
    return None


def need_custom(custom):
    """Return the custom itself, or raise BadCustom."""
    word = custom_fault(custom)
    if word is not None:
        raise BadCustom(word)
    return custom


def is_custom(value):
    """Whether a value is a CUSTOM."""
    return custom_fault(value) is None


def same_marks(custom, other):
    """Raise unless both are customs of as many marks."""
    need_custom(custom)
    need_custom(other)
    if custom[0] != other[0]:
        raise BadMarks(other[0])


def is_turn(value, many):
    """Whether a value is a tuple with each number below many once."""
    return is_number_row(value, many, many - 1) and sorted(value) == list(range(many))


def turned(items, turn):
    """The items, each with its new number."""
    placed = {turn[at]: item for at, item in enumerate(items)}
    return tuple([placed[at] for at in range(len(items))])


def renumbered(custom, stands, ranks):
    """The custom with new numbers for its stands and ranks."""
    need_custom(custom)
    marks, old_stands, old_ranks, read, close = custom
    if not is_turn(stands, len(old_stands)) or stands[0] != 0:
        raise BadNumber(stands)
    if not is_turn(ranks, len(old_ranks)):
        raise BadNumber(ranks)
    new_read = []
    for row in read:
        new_read.append(turned([(stands[stand], keep) for stand, keep in row], ranks))
    new_close = []
    for pair in close:
        new_close.append(tuple([turned([(ranks[rank], pick) for rank, pick in row], stands) for row in pair]))
    return marks, turned(old_stands, stands), turned(old_ranks, ranks), turned(new_read, stands), tuple(new_close)


def with_marks(custom, marks):
    """The custom in which a member with the mark I closes as one with the mark marks[I]."""
    need_custom(custom)
    if not is_number_row(marks, 3, custom[0] - 1) or len(marks) == 0:
        raise BadNumber(marks)
    return len(marks), custom[1], custom[2], custom[3], tuple([custom[4][mark] for mark in marks])


def barring(custom, marks):
    """The custom in which living members with these marks close as dead ones."""
    need_custom(custom)
    if not is_number_row(marks, custom[0], custom[0] - 1) or not is_ascending(marks):
        raise BadNumber(marks)
    close = []
    for mark, (dead, living) in enumerate(custom[4]):
        close.append((dead, dead if mark in marks else living))
    return custom[:4] + (tuple(close),)
