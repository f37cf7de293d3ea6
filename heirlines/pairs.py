"""What two customs can come to in one family, for all families."""

from heirlines.checks import is_between, need_between, need_truth
from heirlines.customs import same_marks
from heirlines.errors import BadNumber
from heirlines.relations import fitting_relations
from heirlines.sidebyside import PairSearch, close_pair, read_pair


def line_pairs(custom, other):
    """All PAIRS OF LINES, ascending."""
    same_marks(custom, other)
    return tuple(sorted(list(PairSearch(custom, other).lines)))


def stand_pairs(custom, other):
    """All PAIRS OF STANDS, ascending."""
    same_marks(custom, other)
    return tuple(sorted(list(PairSearch(custom, other).rows)))


def sizes(custom, other):
    """All PAIRS OF LINES, ascending, each with its size."""
    same_marks(custom, other)
    search = PairSearch(custom, other)
    return tuple([(state, search.size_of_line(state)) for state in sorted(list(search.lines))])


def is_triple(value, holds, far_holds):
    """Whether a value is a triple of two numbers and a RELATION that goes with their truths."""
    if not isinstance(value, tuple) or len(value) != 3:
        return False
    if not is_between(value[0], 0, len(holds) - 1) or not is_between(value[1], 0, len(far_holds) - 1):
        return False
    return value[2] in fitting_relations(holds[value[0]], far_holds[value[1]])


def need_stands(custom, other, stands):
    """Raise BadNumber unless this can be the stands of both, and a RELATION."""
    if not is_triple(stands, custom[1], other[1]):
        raise BadNumber(stands)


def behind_read(custom, other, stands, ranks):
    """The triple of stands behind reading a child's line."""
    same_marks(custom, other)
    need_stands(custom, other, stands)
    if not is_triple(ranks, custom[2], other[2]):
        raise BadNumber(ranks)
    return read_pair(custom, other, stands, ranks)


def behind_close(custom, other, stands, mark, is_alive):
    """The triple of ranks behind closing."""
    same_marks(custom, other)
    need_stands(custom, other, stands)
    need_between(mark, 0, custom[0] - 1)
    need_truth(is_alive)
    return close_pair(custom, other, stands, mark, is_alive)
