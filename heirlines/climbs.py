"""Least ways up from a member to a founder, where something at the member differs."""

from heapq import heappop, heappush

from heirlines.search import TableSearch
from heirlines.shelf import Shelf

ROW = 0
LINE = 1


class Climb:
    """All states to which a table comes above a member at which two things are told apart.

    A state is a triple (A, B, WHO): the ranks of a line, or the stands of a
    row, by the one thing and by the other one, and what is to be known of the
    claimants by both. Around the member all is the same, so whatever is read
    beside it is a least row or a least line. A class below tells how WHO goes
    on, where it begins, and which states may go on.
    """

    def __init__(self, table):
        self.table = table
        self.search = TableSearch(table)
        # each state with its least size, the step that leads to it, and the state ahead of the step
        self.lines = {}
        self.rows = {}
        self.queue = []
        self.begin()
        self.go_on()

    def begin(self):
        """Offer the states with which a way up begins."""
        raise NotImplementedError("told by the classes below")

    def entered(self, keep, far_keep, who):
        """WHO behind reading the line as a child behind a row."""
        raise NotImplementedError("told by the classes below")

    def passed(self, keep, far_keep, who):
        """WHO behind reading a further child."""
        raise NotImplementedError("told by the classes below")

    def closed(self, pick, far_pick, who):
        """WHO behind closing the row."""
        raise NotImplementedError("told by the classes below")

    def offer_line(self, size, state, step, ahead):
        """Note that a step leads to this state of a line with so many members."""
        if state not in self.lines or size < self.lines[state][0]:
            self.lines[state] = (size, step, ahead)
            heappush(self.queue, (size, LINE, state))

    def offer_row(self, size, state, step, ahead):
        """Note that a step leads to this state of a row with so many members."""
        if state not in self.rows or size < self.rows[state][0]:
            self.rows[state] = (size, step, ahead)
            heappush(self.queue, (size, ROW, state))

    def go_on(self):
        """Take the least states first."""
        while self.queue:
            size, sort, state = heappop(self.queue)
            if sort == ROW and size == self.rows[state][0]:
                self.offer_passed(size, state)
                self.offer_closed(size, state)
            elif sort == LINE and size == self.lines[state][0]:
                self.offer_entered(size, state)

    def offer_entered(self, size, line):
        """Note the rows in which the line is the last child."""
        for stand in list(self.search.rows):
            behind, keep = self.table[3][stand][line[0]]
            far_behind, far_keep = self.table[3][stand][line[1]]
            state = (behind, far_behind, self.entered(keep, far_keep, line[2]))
            self.offer_row(size + self.search.rows[stand][0], state, ("enter", stand), line)

    def offer_passed(self, size, row):
        """Note the rows with one more child."""
        for rank in list(self.search.lines):
            behind, keep = self.table[3][row[0]][rank]
            far_behind, far_keep = self.table[3][row[1]][rank]
            state = (behind, far_behind, self.passed(keep, far_keep, row[2]))
            self.offer_row(size + self.search.size_of_line(rank), state, ("pass", rank), row)

    def offer_closed(self, size, row):
        """Note the lines to which the row can be closed."""
        for mark, pair in enumerate(self.table[4]):
            for life, cells in enumerate(pair):
                rank, pick = cells[row[0]]
                far_rank, far_pick = cells[row[1]]
                state = (rank, far_rank, self.closed(pick, far_pick, row[2]))
                self.offer_line(size + 1, state, ("close", mark, life == 1), row)

    def least_line(self, states):
        """One of these states of lines with the least size, or None."""
        return min(states, key=self.size_of_state) if states else None

    def size_of_state(self, line):
        """How many members there are in a line of this state."""
        return self.lines[line][0]

    def steps_to(self, line):
        """The steps that lead to a state of a line, the first one first."""
        steps = []
        state, sort = line, LINE
        while state is not None:
            _, step, ahead = self.lines[state] if sort == LINE else self.rows[state]
            steps.append(step)
            # a line is entered, or begun with; all other steps lead on from rows
            state, sort = ahead, LINE if step[0] == "enter" else ROW
        return steps[::-1]

    def family(self, line):
        """The family of this state, and the way of the member from which it goes up."""
        shelf = Shelf()
        way = ()
        number = None
        children = ()
        for step in self.steps_to(line):
            if step[0] == "member":
                number = shelf.keep(step[1], step[2], self.kept_row(shelf, step[3]))
            elif step[0] == "enter":
                children = self.kept_row(shelf, step[1]) + (number,)
                way = (len(children) - 1,) + way
            elif step[0] == "pass":
                children += (self.kept_line(shelf, step[1]),)
            elif step[0] == "close":
                number = shelf.keep(step[1], step[2], children)
        return shelf.short(number), way

    def kept_line(self, shelf, rank):
        """The number on the shelf of a least line of a rank."""
        return shelf.keep_family(self.search.family(rank))

    def kept_row(self, shelf, stand):
        """The numbers on the shelf of a least row of a stand."""
        return tuple([self.kept_line(shelf, rank) for rank in self.search.row_lines(stand)])
