"""Surroundings of lines and rows, and what tells ranks and stands apart."""

from heirlines.climbs import Climb
from heirlines.customs import need_custom
from heirlines.errors import BadPaper, BadRow, TooGreat
from heirlines.likes import Likes, members_of
from heirlines.lines import MOST_CHILDREN, MOST_LINES, is_told, need_lines
from heirlines.reached import need_rank, need_stand
from heirlines.readings import Reader, need_told
from heirlines.shelf import Shelf
from heirlines.ways import member_path, need_member

MOST_ROW = 8


def need_row(row, marks):
    """Raise BadRow unless this is a ROW of so many marks."""
    if not is_any_row(row):
        raise BadRow(None)
    for place, item in enumerate(row):
        if not is_told(item, marks):
            raise BadRow(place)


def is_any_row(value):
    """Whether a value is a tuple of as many things as a ROW may have."""
    return isinstance(value, tuple) and len(value) <= MOST_ROW


def with_row(shelf, top, way, row):
    """The founder's number behind putting a row ahead of the member's children."""
    mark, is_alive, children = shelf.lines[shelf.path(top, way)[-1]]
    added = tuple([shelf.keep_family(family) for family in row])
    return shelf.put_at(top, way, shelf.keep(mark, is_alive, added + children))


def put_row(family, way, row):
    """The family with the row ahead of the member's children."""
    need_lines(family, 3)
    path = need_member(family, way)
    need_row(row, 3)
    if len(row) + len(family[path[-1]][2]) > MOST_CHILDREN:
        raise TooGreat(MOST_CHILDREN)
    shelf = Shelf()
    lines = shelf.short(with_row(shelf, shelf.keep_family(family), way, row))
    if len(lines) > MOST_LINES:
        raise TooGreat(MOST_LINES)
    return lines


def line_outcome(custom, family, way, line):
    """The OUTCOME of a line that is put in."""
    need_told(custom, family)
    need_member(family, way)
    need_lines(line, custom[0])
    return outcome_of_line(custom, family, way, line)


def outcome_of_line(custom, family, way, line):
    """The OUTCOME of a line, for what is known to be right."""
    shelf = Shelf()
    top = shelf.keep_family(family)
    heir = Reader(custom, shelf).heir_of(shelf.put_at(top, way, shelf.keep_family(line)))
    return "inside" if heir is not None and heir[:len(way)] == way else heir


def row_outcome(custom, family, way, row):
    """The OUTCOME of a row that is put in."""
    need_told(custom, family)
    need_member(family, way)
    need_row(row, custom[0])
    return outcome_of_row(custom, family, way, row)


def outcome_of_row(custom, family, way, row):
    """The OUTCOME of a row, for what is known to be right."""
    shelf = Shelf()
    heir = Reader(custom, shelf).heir_of(with_row(shelf, shelf.keep_family(family), way, row))
    level = len(way)
    if heir is None or heir[:level] != way or len(heir) == level:
        return heir
    if heir[level] < len(row):
        return "inside"
    return way + (heir[level] - len(row),) + heir[level + 1:]


class Parting(Climb):
    """Ways up from two lines, or two rows, until the claimants by both have unlike OUTCOMES.

    WHO is "inside" if both are in what was put in, "same" if they are one
    other member, "none" if there are none, otherwise "unlike".
    """

    def __init__(self, table, is_line, first, second):
        self.is_line = is_line
        self.first = first
        self.second = second
        super().__init__(table)

    def begin(self):
        """Begin with the line of a dead member in the place of the lines, or with no further children."""
        holds = self.table[2 if self.is_line else 1]
        if holds[self.first] != holds[self.second]:
            who = "unlike"
        else:
            who = "inside" if holds[self.first] else "none"
        state = (self.first, self.second, who)
        if self.is_line:
            self.offer_line(1, state, ("member", 0, False, 0), None)
        else:
            self.offer_row(0, state, ("row",), None)

    def entered(self, keep, far_keep, who):
        """WHO behind reading the line as a child behind a row."""
        return led(keep, far_keep, "new", "old", who)

    def passed(self, keep, far_keep, who):
        """WHO behind reading a further child."""
        return led(keep, far_keep, "old", "new", who)

    def closed(self, pick, far_pick, who):
        """WHO behind closing the row."""
        return led(pick, far_pick, "line", "self", who)

    def surrounding(self, who):
        """A least SURROUNDING with this WHO, or None."""
        line = self.least_line([state for state in self.lines if state[2] == who])
        return None if line is None else self.family(line)


def led(word, far_word, leads, stays, who):
    """WHO behind KEEPS or PICKS; leads is the word by which what was put in may be the claimant's place."""
    if word != far_word:
        return "unlike"
    if word == leads:
        return who
    return "same" if word == stays else "none"


def parting_of_ranks(custom, rank, far_rank):
    """A SURROUNDING in which lines with these ranks have unlike OUTCOMES, or None."""
    need_rank(custom, rank)
    need_rank(custom, far_rank)
    return Parting(custom, True, rank, far_rank).surrounding("unlike")


def parting_of_stands(custom, stand, far_stand):
    """A SURROUNDING in which rows with these stands have unlike OUTCOMES, or None."""
    need_stand(custom, stand)
    need_stand(custom, far_stand)
    return Parting(custom, False, stand, far_stand).surrounding("unlike")


def taking(custom, stand):
    """A SURROUNDING in which the heir is in the rows with this stand, or None."""
    need_stand(custom, stand)
    return Parting(custom, False, stand, stand).surrounding("inside")


def number_pairs(many):
    """Each two numbers below many, ascending."""
    return [(first, second) for first in range(many) for second in range(first + 1, many)]


def size_paper(custom):
    """A SIZE PAPER with as many rows and lines as the LEAST CUSTOM has stands and ranks."""
    likes = Likes(need_custom(custom))
    stands = [lot[0] for lot in members_of(likes.stands)]
    ranks = [lot[0] for lot in members_of(likes.ranks)]
    search = likes.search
    lines = tuple([search.family(rank) for rank in ranks])
    rows = tuple([search.row_families(stand) for stand in stands])
    line_tests = [Parting(custom, True, ranks[first], ranks[second]).surrounding("unlike")
                  for first, second in number_pairs(len(ranks))]
    row_tests = [Parting(custom, False, stands[first], stands[second]).surrounding("unlike")
                 for first, second in number_pairs(len(stands))]
    return lines, rows, tuple(line_tests), tuple(row_tests)


def is_surrounding(value, marks):
    """Whether a value is a pair of a family of so many marks and a member's way."""
    if not isinstance(value, tuple) or len(value) != 2 or not is_told(value[0], marks):
        return False
    return member_path(value[0], value[1]) is not None


def is_row(value, marks):
    """Whether a value is a ROW of so many marks."""
    return is_any_row(value) and all([is_told(item, marks) for item in value])


def is_tests(value, many, marks):
    """Whether a value has a SURROUNDING for each two of so many things."""
    if len(value) != many * (many - 1) // 2:
        return False
    return all([is_surrounding(item, marks) for item in value])


def is_size_paper(value, marks):
    """Whether a value has the form of a SIZE PAPER of so many marks."""
    if not isinstance(value, tuple) or len(value) != 4 or not all([isinstance(part, tuple) for part in value]):
        return False
    lines, rows, line_tests, row_tests = value
    if not all([is_told(line, marks) for line in lines]) or not all([is_row(row, marks) for row in rows]):
        return False
    return is_tests(line_tests, len(lines), marks) and is_tests(row_tests, len(rows), marks)


def check_size(custom, paper):
    """How many rows, and how many lines, a right paper has."""
    need_custom(custom)
    if not is_size_paper(paper, custom[0]):
        raise BadPaper("form")
    lines, rows, line_tests, row_tests = paper
    for (family, way), (first, second) in zip(line_tests, number_pairs(len(lines))):
        if outcome_of_line(custom, family, way, lines[first]) == outcome_of_line(custom, family, way, lines[second]):
            raise BadPaper("lines")
    for (family, way), (first, second) in zip(row_tests, number_pairs(len(rows))):
        if outcome_of_row(custom, family, way, rows[first]) == outcome_of_row(custom, family, way, rows[second]):
            raise BadPaper("rows")
    return len(rows), len(lines)
