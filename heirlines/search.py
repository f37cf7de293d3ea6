"""Least families and rows for all states that tables can come to."""

from heapq import heappop, heappush

from heirlines.shelf import short_form

ROW = 0
LINE = 1


class Search:
    """All states of lines and of rows that come, each with its least size.

    A line of a state has one member more than the row that it closes; a row
    has the members of the row ahead and of the line that is read. So sizes
    never shrink, and the least state that is waiting has its least size.
    A class below tells how states are read and closed; it may weigh members.
    """

    def __init__(self, start):
        self.lines = {}
        self.rows = {}
        self.taken_lines = {}
        self.taken_rows = {}
        self.queue = []
        self.offer_row(0, start, None, None)
        self.go_on()

    def closings(self, row):
        """The triples (state of the line, mark, life) to which a row can be closed."""
        raise NotImplementedError("told by the classes below")

    def behind(self, row, line):
        """The state of the row behind a child, or None if the two don't go together."""
        raise NotImplementedError("told by the classes below")

    def weight(self, _):
        """What a member with this life counts for."""
        return 1

    def lines_beside(self, _):
        """The lines that came ahead of a row and are to be read behind it."""
        return list(self.taken_lines)

    def rows_beside(self, _):
        """The rows that came ahead of a line and behind which it is to be read."""
        return list(self.taken_rows)

    def offer_row(self, size, state, row, line):
        """Note that reading a line behind a row gives the state with so many members."""
        if state not in self.rows or size < self.rows[state][0]:
            self.rows[state] = (size, row, line)
            heappush(self.queue, (size, ROW, state))

    def offer_lines(self, row):
        """Note the lines to which a row can be closed."""
        for state, mark, is_alive in self.closings(row):
            size = self.rows[row][0] + self.weight(is_alive)
            if state not in self.lines or size < self.lines[state][0]:
                self.lines[state] = (size, row, mark, is_alive)
                heappush(self.queue, (size, LINE, state))

    def offer_behind(self, row, line):
        """Note the row behind a child."""
        state = self.behind(row, line)
        if state is not None:
            self.offer_row(self.rows[row][0] + self.lines[line][0], state, row, line)

    def go_on(self):
        """Take the least states first, each with all that were taken ahead of it."""
        while self.queue:
            _, sort, state = heappop(self.queue)
            if sort == ROW and state not in self.taken_rows:
                self.taken_rows[state] = True
                self.offer_lines(state)
                for line in self.lines_beside(state):
                    self.offer_behind(state, line)
            elif sort == LINE and state not in self.taken_lines:
                self.taken_lines[state] = True
                for row in self.rows_beside(state):
                    self.offer_behind(row, state)

    def row_lines(self, row):
        """The states of the lines of a least row, from the eldest."""
        states = []
        while self.rows[row][2] is not None:
            states.append(self.rows[row][2])
            row = self.rows[row][1]
        return states[::-1]

    def row_families(self, row):
        """The families of a least row, from the eldest."""
        return tuple([self.family(line) for line in self.row_lines(row)])

    def size_of_line(self, state):
        """How many members a least line of this state has."""
        return self.lines[state][0]

    def family(self, top):
        """A least family whose founder's line has this state."""
        _, row, mark, is_alive = self.lines[top]
        return self.family_over(row, mark, is_alive)

    def family_over(self, row, mark, is_alive):
        """The family of this founder over a least row of children."""
        needed = {line: True for line in self.row_lines(row)}
        waiting = list(needed)
        while waiting:
            own_row = self.lines[waiting.pop()][1]
            for line in self.row_lines(own_row):
                if line not in needed:
                    needed[line] = True
                    waiting.append(line)
        numbers = {}
        told = []
        # a child's line is smaller than its parent's, so it comes first
        for line in sorted(list(needed), key=self.size_of_line):
            _, own_row, own_mark, own_life = self.lines[line]
            told.append((own_mark, own_life, tuple([numbers[child] for child in self.row_lines(own_row)])))
            numbers[line] = len(numbers)
        told.append((mark, is_alive, tuple([numbers[child] for child in self.row_lines(row)])))
        return short_form(told)


class TableSearch(Search):
    """The ranks and stands of one table that are reached."""

    def __init__(self, table):
        self.table = table
        super().__init__(0)

    def closings(self, row):
        """Each rank to which the stand can be closed."""
        found = []
        for mark, pair in enumerate(self.table[4]):
            for life, cells in enumerate(pair):
                found.append((cells[row][0], mark, life == 1))
        return found

    def behind(self, row, line):
        """The stand behind a child with this rank."""
        return self.table[3][row][line][0]
