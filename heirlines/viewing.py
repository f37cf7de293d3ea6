"""Which VIEWS two customs show, and in which least families."""

from heirlines.relations import close_relation, read_relation
from heirlines.search import Search

NO_MARK = -1
NEITHER = (False, False)
LEADS = ((False, False), (False, True), (True, False), (True, True))


class Part:
    """The first states of one sort, by what counts of them.

    Behind a child most of what was known of the row, or of the line, is
    forgotten; states that then come to the same needn't be read twice.
    """

    def __init__(self, leads):
        self.leads = leads
        self.seen = {}
        # the first states for each two ranks, or stands
        self.states = {}

    def key(self, state):
        """What counts of a state if it leads on the claimants that are told."""
        if self.leads[0] and self.leads[1]:
            return state
        return state[:2] + (state[3] if self.leads[0] else NO_MARK, state[4] if self.leads[1] else NO_MARK)

    def is_first(self, state):
        """Take a state; return whether nothing that counts as much was taken ahead."""
        key = self.key(state)
        if key in self.seen:
            return False
        self.seen[key] = True
        self.states.setdefault(state[:2], []).append(state)
        return True


class ViewSearch(Search):
    """The pairs of lines and of stands of two tables, with the MARKS of both claimants.

    A state is a tuple of the two ranks or stands, the RELATION and the two MARKS.
    """

    def __init__(self, table, other):
        self.table = table
        self.other = other
        self.row_parts = {leads: Part(leads) for leads in LEADS}
        self.line_parts = {leads: Part(leads) for leads in LEADS}
        super().__init__((0, 0, "none", NO_MARK, NO_MARK))

    def picked(self, row, mark, is_alive):
        """Both ranks, the RELATION, both MARKS, and both PICKS of a line."""
        life = 1 if is_alive else 0
        rank, pick = self.table[4][mark][life][row[0]]
        far_rank, far_pick = self.other[4][mark][life][row[1]]
        own = {"self": mark, "line": row[3], "none": NO_MARK}[pick]
        far_own = {"self": mark, "line": row[4], "none": NO_MARK}[far_pick]
        return rank, far_rank, close_relation(pick, far_pick, row[2]), own, far_own, pick, far_pick

    def closings(self, row):
        """Each line to which the row can be closed."""
        found = []
        for mark in range(self.table[0]):
            for is_alive in (False, True):
                found.append((self.picked(row, mark, is_alive)[:5], mark, is_alive))
        return found

    def keeps(self, row, line):
        """Both KEEPS behind a child."""
        return self.table[3][row[0]][line[0]][1], self.other[3][row[1]][line[1]][1]

    def behind(self, row, line):
        """The state of the row behind a child."""
        stand, keep = self.table[3][row[0]][line[0]]
        far_stand, far_keep = self.other[3][row[1]][line[1]]
        mark = {"old": row[3], "new": line[3], "none": NO_MARK}[keep]
        far_mark = {"old": row[4], "new": line[4], "none": NO_MARK}[far_keep]
        return stand, far_stand, read_relation(keep, far_keep, row[2], line[2]), mark, far_mark

    def lines_beside(self, row):
        """The lines that came ahead of a row and are to be read behind it."""
        first = {leads: self.row_parts[leads].is_first(row) for leads in LEADS}
        found = []
        for ranks in list(self.line_parts[NEITHER].states):
            keeps = self.keeps(row, ranks)
            if first[(keeps[0] == "old", keeps[1] == "old")]:
                found += self.line_parts[(keeps[0] == "new", keeps[1] == "new")].states[ranks]
        return found

    def rows_beside(self, line):
        """The rows that came ahead of a line and behind which it is to be read."""
        first = {leads: self.line_parts[leads].is_first(line) for leads in LEADS}
        found = []
        for stands in list(self.row_parts[NEITHER].states):
            keeps = self.keeps(stands, line)
            if first[(keeps[0] == "new", keeps[1] == "new")]:
                found += self.row_parts[(keeps[0] == "old", keeps[1] == "old")].states[stands]
        return found

    def views(self):
        """Each VIEW with the size of a least family, and the row, mark and life of its founder."""
        least = {}
        for row in self.rows:
            size = self.rows[row][0] + 1
            for mark in range(self.table[0]):
                for is_alive in (False, True):
                    view = view_of(self.picked(row, mark, is_alive))
                    if view not in least or size < least[view][0]:
                        least[view] = (size, row, mark, is_alive)
        return least


def view_of(picked):
    """The VIEW of a family whose founder's line picks so."""
    marks = [None if mark == NO_MARK else mark for mark in picked[3:5]]
    return picked[2], marks[0], marks[1], picked[5] == "self", picked[6] == "self"


class Views:
    """All VIEWS of two customs, each with a least family."""

    def __init__(self, custom, other):
        self.search = ViewSearch(custom, other)
        self.least = self.search.views()

    def size_of_view(self, view):
        """How many members a least family with this VIEW has."""
        return self.least[view][0]

    def family(self, views):
        """A least family with one of these VIEWS, or None if there are none."""
        shown = [view for view in views if view in self.least]
        if not shown:
            return None
        _, row, mark, is_alive = self.least[min(shown, key=self.size_of_view)]
        return self.search.family_over(row, mark, is_alive)
