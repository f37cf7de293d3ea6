"""Three tables that read all families side by side, the third of which is to join the two others."""

from heirlines.schemes import pick_for
from heirlines.search import Search
from heirlines.sidebyside import close_pair, read_pair


class JoinSearch(Search):
    """All that three tables come to, until a least line is found in which the third one doesn't join the others.

    A state is a triple: the pair of lines, or of stands, of the first two
    tables; the rank, or stand, of the third one; and for each of the first
    two whether the third one has the same claimant.
    """

    def __init__(self, scheme, custom, other, third):
        self.scheme = scheme
        self.both = (custom, other)
        self.third = third
        self.unjoined = None
        super().__init__(((0, 0, "none"), 0, (False, False)))

    def closings(self, row):
        """Each state of a line to which the row can be closed."""
        found = []
        for mark in range(self.third[0]):
            for life in (0, 1):
                found.append((self.closed(row, mark, life), mark, life == 1))
        return found

    def closed(self, row, mark, life):
        """The state of a line, from that of its row."""
        stands, stand, sames = row
        rank, pick = self.third[4][mark][life][stand]
        new_sames = []
        for side, table in enumerate(self.both):
            is_as = table[4][mark][life][stands[side]][1] == pick
            new_sames.append(is_as and (pick == "self" or (pick == "line" and sames[side])))
        return close_pair(self.both[0], self.both[1], stands, mark, life == 1), rank, tuple(new_sames)

    def behind(self, row, line):
        """The state of the row behind a child."""
        stand, keep = self.third[3][row[1]][line[1]]
        sames = []
        for side, table in enumerate(self.both):
            is_as = table[3][row[0][side]][line[0][side]][1] == keep
            sames.append(is_as and ((keep == "old" and row[2][side]) or (keep == "new" and line[2][side])))
        return read_pair(self.both[0], self.both[1], row[0], line[0]), stand, tuple(sames)

    def is_joined(self, line):
        """Whether the third claimant of a line is the one that the scheme picks."""
        pick = pick_for(self.scheme, line[0][2])
        if pick == "none":
            return not self.third[2][line[1]]
        return line[2][0] if pick == "first" else line[2][1]

    def lines_beside(self, row):
        """The lines that came ahead of a row; none once a least line is found, so that the search ends."""
        return [] if self.unjoined is not None else super().lines_beside(row)

    def rows_beside(self, line):
        """The rows that came ahead of a line, none once a least line is found."""
        if self.unjoined is None and not self.is_joined(line):
            self.unjoined = line
        return [] if self.unjoined is not None else super().rows_beside(line)

    def least_unjoined(self):
        """A least family in which the third table doesn't join the others, or None."""
        return None if self.unjoined is None else self.family(self.unjoined)
