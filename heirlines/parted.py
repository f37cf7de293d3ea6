"""Families that part two customs."""

from heirlines.checks import is_whole
from heirlines.customs import same_marks
from heirlines.errors import BadNumber, TooGreat
from heirlines.pairs import is_triple
from heirlines.relations import RELATIONS
from heirlines.shelf import short_form
from heirlines.sidebyside import APART, PairSearch, close_pair, least_apart, read_pair

MOST_PAIRS = 16


def least_family(custom, other, pair):
    """A least family that shows this PAIR OF LINES."""
    same_marks(custom, other)
    search = PairSearch(custom, other)
    if not is_triple(pair, custom[2], other[2]) or pair not in search.lines:
        raise BadNumber(pair)
    return search.family(pair)


def parting_family(custom, other):
    """A least family of all that part them, or None."""
    same_marks(custom, other)
    return least_apart(custom, other)


def relations(custom, other):
    """The RELATIONS of all PAIRS OF LINES, each once."""
    same_marks(custom, other)
    shown = [state[2] for state in PairSearch(custom, other).lines]
    return tuple([word for word in RELATIONS if word in shown])


class Levels:
    """The pairs of lines that two tables show with few children, level by level.

    It goes on until a level brings a pair that parts them, or no new one.
    """

    def __init__(self, table, other, most_children, most_levels):
        self.table = table
        self.other = other
        self.most_children = most_children
        # each pair of lines with the row, mark and life that show it, by pairs that came ahead
        self.lines = {}
        self.levels = 0
        self.parting = None
        is_new = True
        while is_new and self.parting is None and self.levels < most_levels:
            self.levels += 1
            is_new = self.add_level()

    def add_level(self):
        """Note the pairs that come with one more level; return whether there are any."""
        many = len(self.lines)
        rows = self.rows_within()
        for stands in list(rows):
            for mark in range(self.table[0]):
                for is_alive in (False, True):
                    pair = close_pair(self.table, self.other, stands, mark, is_alive)
                    if pair not in self.lines:
                        self.lines[pair] = (rows[stands], mark, is_alive)
                        if pair[2] in APART and self.parting is None:
                            self.parting = pair
        return len(self.lines) > many

    def rows_within(self):
        """Each pair of stands that few enough children show, with a row of fewest."""
        rows = {(0, 0, "none"): ()}
        newest = list(rows)
        many = 0
        while newest and many < self.most_children:
            many += 1
            behind = []
            for stands in newest:
                for pair in self.lines:
                    more = read_pair(self.table, self.other, stands, pair)
                    if more not in rows:
                        rows[more] = rows[stands] + (pair,)
                        behind.append(more)
            newest = behind
        return rows

    def family(self):
        """A family that parts them."""
        numbers = {}
        told = []
        # the pairs of a row came ahead of the pair that the row shows
        for pair, (row, mark, is_alive) in self.lines.items():
            numbers[pair] = len(told)
            told.append((mark, is_alive, tuple([numbers[child] for child in row])))
        return short_form(told[:numbers[self.parting] + 1])


def need_few(custom, other):
    """Raise TooGreat if the two customs have too many stands or ranks together."""
    if len(custom[1]) * len(other[1]) > MOST_PAIRS or len(custom[2]) * len(other[2]) > MOST_PAIRS:
        raise TooGreat(MOST_PAIRS)


def border(custom, other):
    """The least pairs (CHILDREN, LEVELS) within which some family parts them."""
    same_marks(custom, other)
    need_few(custom, other)
    search = PairSearch(custom, other)
    most_children, most_levels = len(search.rows), len(search.lines)
    least = Levels(custom, other, most_children, most_levels)
    if least.parting is None:
        return ()
    pairs = []
    children = 0
    while not pairs or pairs[-1][1] > least.levels:
        # as many levels as last time would be no new pair
        most = pairs[-1][1] - 1 if pairs else most_levels
        found = Levels(custom, other, children, most)
        if found.parting is not None:
            pairs.append((children, found.levels))
        children += 1
    return tuple(pairs)


def parting_within(custom, other, children, levels):
    """A family within so many children and levels that parts them, or None."""
    same_marks(custom, other)
    if not is_whole(children) or children < 0:
        raise BadNumber(children)
    if not is_whole(levels) or levels < 1:
        raise BadNumber(levels)
    need_few(custom, other)
    found = Levels(custom, other, children, levels)
    return found.family() if found.parting is not None else None
