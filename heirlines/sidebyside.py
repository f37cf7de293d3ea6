"""Two tables of as many marks that read all families side by side."""

from heirlines.relations import close_relation, read_relation
from heirlines.search import Search

APART = ("first", "second", "above", "below", "elder", "younger")


def read_pair(table, other, stands, ranks):
    """The triple of stands and RELATION behind a child, from two triples."""
    stand, keep = table[3][stands[0]][ranks[0]]
    far_stand, far_keep = other[3][stands[1]][ranks[1]]
    return stand, far_stand, read_relation(keep, far_keep, stands[2], ranks[2])


def close_pair(table, other, stands, mark, is_alive):
    """The triple of ranks and RELATION of a line, from that of its row."""
    life = 1 if is_alive else 0
    rank, pick = table[4][mark][life][stands[0]]
    far_rank, far_pick = other[4][mark][life][stands[1]]
    return rank, far_rank, close_relation(pick, far_pick, stands[2])


class PairSearch(Search):
    """The pairs of lines and of stands of two tables."""

    def __init__(self, table, other):
        self.table = table
        self.other = other
        super().__init__((0, 0, "none"))

    def closings(self, row):
        """Each pair of lines to which the pair of stands can be closed."""
        found = []
        for mark in range(self.table[0]):
            for is_alive in (False, True):
                found.append((close_pair(self.table, self.other, row, mark, is_alive), mark, is_alive))
        return found

    def behind(self, row, line):
        """The pair of stands behind a child."""
        return read_pair(self.table, self.other, row, line)

    def least_apart(self):
        """A least family in which the two tables name unlike heirs, or None."""
        apart = [state for state in self.lines if state[2] in APART]
        return self.family(min(apart, key=self.size_of_line)) if apart else None


def least_apart(table, other):
    """A least family in which two tables name unlike heirs, or None."""
    return PairSearch(table, other).least_apart()
