"""Two deals side by side: how little one leaves of what the other one gives, for all families."""

from heirlines.deals import need_deal
from heirlines.errors import BadMarks
from heirlines.parts import NOTHING, WHOLE, in_lowest, is_less, multiplied
from heirlines.search import Search
from heirlines.walkways import Walkways


def need_deals(deal, other):
    """Raise unless both are deals of as many marks."""
    need_deal(deal)
    need_deal(other)
    if deal[0] != other[0]:
        raise BadMarks(other[0])


class DealSearch(Search):
    """The pairs of ranks that lines have by two deals, and the pairs of stands of rows."""

    def __init__(self, deal, other):
        self.deal = deal
        self.other = other
        super().__init__((0, 0))

    def closings(self, row):
        """Each pair of ranks to which the pair of stands can be closed."""
        return [(closing.ranks, closing.mark, closing.is_alive) for closing in closings_of(self.deal, self.other, row)]

    def behind(self, row, line):
        """The pair of stands behind a child."""
        return self.deal[2][row[0]][line[0]], self.other[2][row[1]][line[1]]


class DealtClosing:
    """How a member with a row of children closes by both deals."""

    def __init__(self, row, mark, life, cells):
        self.row = row
        self.mark = mark
        self.is_alive = life == 1
        self.ranks = (cells[0][0], cells[1][0])
        self.take = cells[0][1]
        self.far_take = cells[1][1]

    def own(self):
        """What the member has by the first deal of what it has by the second one; None if that is nothing."""
        if self.far_take != "self":
            return None
        return WHOLE if self.take == "self" else NOTHING


def closings_of(deal, other, row):
    """All closings of a pair of stands."""
    found = []
    for mark in range(deal[0]):
        for life in (0, 1):
            cells = (deal[3][mark][life][row[0]], other[3][mark][life][row[1]])
            found.append(DealtClosing(row, mark, life, cells))
    return found


class Weighing:
    """For each pair of ranks in which somebody has something by the second deal, the least part that is left."""

    def __init__(self, deal, other):
        self.deal = deal
        self.other = other
        self.search = DealSearch(deal, other)
        # the weight by the second deal comes first
        weights = {pair: (other[1][pair[1]], deal[1][pair[0]]) for pair in self.search.lines}
        leads = {row: {pair: self.search.behind(row, pair) for pair in self.search.lines} for row in self.search.rows}
        self.ways = Walkways(leads, weights, (0, 0))
        self.closings = []
        for row in self.search.rows:
            self.closings += closings_of(deal, other, row)
        # each pair of ranks with a closing and perhaps a child by which somebody has something
        self.gains = {}
        self.find_gains()
        # the closings over a child to which something comes by the second deal
        self.edges = []
        for closing in self.closings:
            self.edges += [(closing, child) for child in self.gains if self.is_led(closing, child)]

    def find_gains(self):
        """Note the pairs of ranks in which somebody has something by the second deal."""
        for closing in self.closings:
            if closing.far_take == "self":
                self.gains.setdefault(closing.ranks, (closing, None))
        newest = list(self.gains)
        while newest:
            later = []
            for child in newest:
                for closing in self.closings:
                    if closing.ranks not in self.gains and self.is_led(closing, child):
                        self.gains[closing.ranks] = (closing, child)
                        later.append(closing.ranks)
            newest = later

    def is_led(self, closing, child):
        """Whether by the second deal something can come to a child with this pair of ranks."""
        if closing.far_take != "lines" or self.other[1][child[1]] == 0:
            return False
        return self.ways.is_crossed(child, closing.row)

    def is_cut(self, closing, child):
        """Whether nothing comes to such a child by the first deal."""
        return closing.take != "lines" or self.deal[1][child[0]] == 0

    def part_by(self, child, ratio):
        """What is left to a child, where this is the ratio of the sums of the weights in its row."""
        first, second = self.ways.weights[child]
        return in_lowest(second * ratio[0], first * ratio[1])

    def sure_part(self, closing, child):
        """A fraction that is never above what is left to such a child."""
        if self.is_cut(closing, child):
            return NOTHING
        return self.part_by(child, self.ways.sure_least(closing.row))

    def least_part(self, closing, child):
        """The greatest fraction that is left to such a child in all rows."""
        if self.is_cut(closing, child):
            return NOTHING
        return self.part_by(child, self.ways.least_with(child, closing.row)[0])

    def lesser_part(self, closing, child, parts):
        """What a child's fraction leads to, if that is less than the fraction of the line, otherwise None."""
        pair = closing.ranks
        # a least ratio is looked for only where it could matter
        if pair in parts and not is_less(multiplied(self.sure_part(closing, child), parts[child]), parts[pair]):
            return None
        part = multiplied(self.least_part(closing, child), parts[child])
        return part if pair not in parts or is_less(part, parts[pair]) else None


class Downward:
    """Fractions of pairs of ranks that are lowered, each by a closing over a child with another fraction."""

    def __init__(self):
        self.parts = {}
        self.last = {}

    def is_lower(self, pair, part):
        """Whether a fraction is less than the one of the pair so far."""
        return pair not in self.parts or is_less(part, self.parts[pair])

    def lower(self, closing, child, part):
        """Note a lesser fraction; return the edges of the round by which it shrinks without end, if there is one."""
        pair = closing.ranks
        self.parts[pair] = part
        self.last[pair] = (closing, child)
        edges = []
        while pair in self.last and (not edges or pair != closing.ranks):
            edges.append(self.last[pair])
            pair = self.last[pair][1]
        return edges[::-1] if pair == closing.ranks else []


class LeastParts(Downward):
    """The greatest fractions for all pairs of ranks: those of the members, led up as long as they shrink."""

    def __init__(self, weighing):
        super().__init__()
        self.weighing = weighing
        for closing in weighing.closings:
            own = closing.own()
            if own is not None and self.is_lower(closing.ranks, own):
                self.parts[closing.ranks] = own
        is_changed = True
        while is_changed:
            is_changed = False
            for closing, child in weighing.edges:
                if child in self.parts and self.lead(closing, child):
                    is_changed = True

    def lead(self, closing, child):
        """Lead the fraction of a child's line up; return whether it is a lesser one."""
        part = self.weighing.lesser_part(closing, child, self.parts)
        if part is None:
            return False
        for round_closing, _ in self.lower(closing, child, part):
            # what shrinks by going round and round comes to nothing
            self.parts[round_closing.ranks] = NOTHING
            del self.last[round_closing.ranks]
        return True

    def least_of_all(self):
        """The least of all fractions, None if there are none."""
        best = None
        for part in list(self.parts.values()):
            if best is None or is_less(part, best):
                best = part
        return best
