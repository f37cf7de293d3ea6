"""What joins two customs: the table of all they come to side by side, or a witness that there is none."""

from heirlines.schemes import pick_for
from heirlines.search import LINE, ROW
from heirlines.shelf import Shelf
from heirlines.sidebyside import PairSearch, close_pair

FIRST = 0
SECOND = 1
SIDES = {"first": 0, "second": 1}


class Joint:
    """Whose claimants a scheme can still pick, for all pairs of lines and of stands of two customs.

    A side is FIRST or SECOND. A triple (sort, pair, side), of a pair of lines
    or of stands, is *led* if in some family around it the heir by the scheme
    is the claimant by this side. For each such triple ups tells a step and the
    triple to which it leads further up; (None, None) where the founder is.
    """

    def __init__(self, scheme, custom, other):
        self.scheme = scheme
        self.both = (custom, other)
        self.search = PairSearch(custom, other)
        self.ups = {}
        self.lead_down()

    def side_of_line(self, line):
        """The side that the scheme picks for a pair of lines, or None."""
        return SIDES.get(pick_for(self.scheme, line[2]))

    def lead_down(self):
        """Find all that is led, from the founders down, by as few steps as can be."""
        steps = {}
        for row in self.search.rows:
            self.note_closings(row, steps)
            for line in self.search.lines:
                self.note_reading(row, line, steps)
        found = []
        for line in self.search.lines:
            if self.side_of_line(line) is not None:
                self.lead((LINE, line, self.side_of_line(line)), (None, None), found)
        at = 0
        while at < len(found):
            above = found[at]
            at += 1
            for below, step in steps.get(above, []):
                self.lead(below, (step, above), found)

    def lead(self, below, up, found):
        """Note how a triple is led further up."""
        if below not in self.ups:
            self.ups[below] = up
            found.append(below)

    def note_closings(self, row, steps):
        """Note from which stands a claimant gets to the lines to which they can be closed."""
        for line, mark, is_alive in self.search.closings(row):
            for side, table in enumerate(self.both):
                if table[4][mark][1 if is_alive else 0][row[side]][1] == "line":
                    steps.setdefault((LINE, line, side), []).append(((ROW, row, side), ("close", mark, is_alive)))

    def note_reading(self, row, line, steps):
        """Note from where a claimant gets to the stands behind a child."""
        behind = self.search.behind(row, line)
        for side, table in enumerate(self.both):
            keep = table[3][row[side]][line[side]][1]
            if keep == "new":
                steps.setdefault((ROW, behind, side), []).append(((LINE, line, side), ("enter", row)))
            elif keep == "old":
                steps.setdefault((ROW, behind, side), []).append(((ROW, row, side), ("pass", line)))

    def witness(self):
        """A WITNESS that no custom joins the two, or None."""
        for sort, state, side in self.ups:
            if sort == LINE and self.is_wrong_line(state, side):
                return self.line_witness(state, side)
            if sort == ROW and state[2] != "same" and (ROW, state, 1 - side) in self.ups:
                return self.row_witness(state)
        return None

    def is_wrong_line(self, line, side):
        """Whether the claimant by this side isn't the one that the scheme picks where the line is the family."""
        picked = self.side_of_line(line)
        return picked is None or (picked != side and line[2] != "same")

    def line_witness(self, line, side):
        """The WITNESS around a line whose claimant isn't the one that is picked there."""
        shelf = Shelf()
        top, way = self.around(shelf, shelf.keep_family(self.search.family(line)), (), (LINE, line, side))
        return "line", shelf.short(top), way

    def row_witness(self, row):
        """The WITNESS of children who would have to hold two claimants."""
        told = ()
        for side in (FIRST, SECOND):
            shelf = Shelf()
            top, way = self.around(shelf, None, self.kept_row(shelf, row), (ROW, row, side))
            told += (shelf.short(top), way)
        return ("row",) + told + (len(self.search.row_lines(row)),)

    def kept_row(self, shelf, row):
        """The numbers on the shelf of a least row."""
        return tuple([shelf.keep_family(family) for family in self.search.row_families(row)])

    def around(self, shelf, number, children, led):
        """The founder's number where a line, or a row of children, is led to a founder, and the way of its member."""
        way = ()
        step, led = self.ups[led]
        while step is not None:
            if step[0] == "pass":
                children += (shelf.keep_family(self.search.family(step[1])),)
            elif step[0] == "close":
                number = shelf.keep(step[1], step[2], children)
            else:
                children = self.kept_row(shelf, step[1]) + (number,)
                way = (len(children) - 1,) + way
            step, led = self.ups[led]
        return number, way

    def side_of_row(self, row):
        """The side whose claimant is held for a pair of stands, or None; without a witness it doesn't matter which."""
        sides = [side for side in (FIRST, SECOND) if (ROW, row, side) in self.ups]
        return sides[0] if sides else None

    def as_table(self):
        """A table like that of a custom, which names the heir by the scheme in all families; without a witness."""
        lines = sorted(list(self.search.lines))
        # so the row without children comes first
        rows = sorted(list(self.search.rows))
        line_numbers = {line: number for number, line in enumerate(lines)}
        row_numbers = {row: number for number, row in enumerate(rows)}
        read = [tuple([self.read_cell(row, line, row_numbers) for line in lines]) for row in rows]
        close = []
        for mark in range(self.both[0][0]):
            close.append(tuple([tuple([self.close_cell(row, mark, life, line_numbers) for row in rows])
                                for life in (0, 1)]))
        stands = tuple([self.side_of_row(row) is not None for row in rows])
        ranks = tuple([self.side_of_line(line) is not None for line in lines])
        return self.both[0][0], stands, ranks, tuple(read), tuple(close)

    def read_cell(self, row, line, numbers):
        """The number of the pair of stands behind a child, and KEEP."""
        behind = self.search.behind(row, line)
        side = self.side_of_row(behind)
        if side is None:
            return numbers[behind], "none"
        return numbers[behind], self.both[side][3][row[side]][line[side]][1]

    def close_cell(self, row, mark, life, numbers):
        """The number of the pair of lines behind closing, and PICK."""
        line = close_pair(self.both[0], self.both[1], row, mark, life == 1)
        side = self.side_of_line(line)
        if side is None:
            return numbers[line], "none"
        return numbers[line], self.both[side][4][mark][life][row[side]][1]
