"""Two or three customs that read all families at once."""

from heirlines.errors import TooGreat
from heirlines.relations import close_relation, read_relation
from heirlines.search import Search

MOST_STATES = 2000
PAIRS = ((0, 1), (0, 2), (1, 2))


def pairs_of(customs):
    """The numbers of each two customs."""
    return [pair for pair in PAIRS if pair[1] < len(customs)]


def start_of(customs):
    """The state of a row without children."""
    return (0,) * len(customs), ("none",) * len(pairs_of(customs))


def read_all(customs, row, line):
    """The state of a row behind a child."""
    cells = [custom[3][stand][rank] for custom, stand, rank in zip(customs, row[0], line[0])]
    relations = [read_relation(cells[first][1], cells[second][1], row[1][place], line[1][place])
                 for place, (first, second) in enumerate(pairs_of(customs))]
    return tuple([stand for stand, _ in cells]), tuple(relations)


def close_all(customs, row, mark, life):
    """The state of a line, from that of its row."""
    cells = [custom[4][mark][life][stand] for custom, stand in zip(customs, row[0])]
    relations = [close_relation(cells[first][1], cells[second][1], row[1][place])
                 for place, (first, second) in enumerate(pairs_of(customs))]
    return tuple([rank for rank, _ in cells]), tuple(relations)


def is_parting(line):
    """Whether any two heirs are unlike in this state of a line."""
    return not any([word in ("none", "same") for word in line[1]])


class AllSearch(Search):
    """All states of lines and of rows that come."""

    def __init__(self, customs):
        self.customs = customs
        super().__init__(start_of(customs))

    def closings(self, row):
        """Each state of a line to which the row can be closed."""
        found = []
        for mark in range(self.customs[0][0]):
            for life in (0, 1):
                found.append((close_all(self.customs, row, mark, life), mark, life == 1))
        return found

    def behind(self, row, line):
        """The state of a row behind a child."""
        return read_all(self.customs, row, line)

    def need_few(self):
        """Raise TooGreat if too many states come."""
        if len(self.lines) + len(self.rows) > MOST_STATES:
            raise TooGreat(MOST_STATES)

    def offer_lines(self, row):
        """Note the lines to which a row can be closed."""
        super().offer_lines(row)
        self.need_few()

    def offer_behind(self, row, line):
        """Note the row behind a child."""
        super().offer_behind(row, line)
        self.need_few()

    def least_parting(self):
        """A least family that parts the customs at once, or None."""
        states = [state for state in self.lines if is_parting(state)]
        return self.family(min(states, key=self.size_of_line)) if states else None


def is_closed(customs, lines, rows):
    """Whether tables of states have all that comes, and none of them parts the customs at once."""
    in_lines = {state: True for state in lines}
    in_rows = {state: True for state in rows}
    if start_of(customs) not in in_rows or any([is_parting(state) for state in lines]):
        return False
    for row in rows:
        for mark in range(customs[0][0]):
            if not all([close_all(customs, row, mark, life) in in_lines for life in (0, 1)]):
                return False
        if not all([read_all(customs, row, line) in in_rows for line in lines]):
            return False
    return True
