"""Families that grow, and the fraction to which what their told member has tends."""

from heirlines.checks import is_between, is_number_row, is_truth, is_whole, need_between
from heirlines.customs import is_pair
from heirlines.errors import BadPaper, TooGreat
from heirlines.lines import MOST_CHILDREN, MOST_LINES, is_line, within_bounds
from heirlines.parts import NOTHING, WHOLE, in_lowest, is_less, multiplied
from heirlines.paths import least_path
from heirlines.shelf import Shelf
from heirlines.weighing import LeastParts, Weighing, closings_of, need_deals

MOST_STEPS = 200
MOST_TIMES = 40
TOLD = -1


def growth(deal, other):
    """A GROWTH by which the told one's quotient tends to the FACTOR, or None."""
    need_deals(deal, other)
    found = LeastParts(Weighing(deal, other))
    if found.least_of_all() is None:
        return None
    steps, again = least_path(found)
    shelf = Shelf()
    chain = tuple([step_of(shelf, found.weighing.search, step) for step in steps])
    return tuple(shelf.lines), chain, again


def step_of(shelf, search, step):
    """A STEP, whose children are lines on the shelf."""
    closing, rows = step
    told = []
    for row in rows:
        told.append(tuple([TOLD if pair is None else shelf.keep_family(search.family(pair)) for pair in row]))
    return closing.mark, closing.is_alive, told[0], told[1], told[2]


def is_row_of(value, many, is_told_in):
    """Whether a value is a tuple of numbers of lines, perhaps with the told line once."""
    if not isinstance(value, tuple) or len(value) > MOST_CHILDREN or not all([is_whole(item) for item in value]):
        return False
    lines = tuple([item for item in value if item != TOLD])
    return is_number_row(lines, MOST_CHILDREN, many - 1) and len(value) - len(lines) == (1 if is_told_in else 0)


def is_step(value, place, many):
    """Whether a value can stand as the STEP with this number, beside so many lines."""
    if not isinstance(value, tuple) or len(value) != 5:
        return False
    mark, is_alive, before, loop, after = value
    if not is_between(mark, 0, 2) or not is_truth(is_alive) or not is_row_of(loop, many, False):
        return False
    if place == 0:
        return loop == () and is_row_of(before, many, False) and is_row_of(after, many, False)
    if is_row_of(before, many, True):
        return is_row_of(after, many, False)
    return is_row_of(before, many, False) and is_row_of(after, many, True)


def is_again(value, many):
    """Whether a value is AGAIN for so many steps."""
    if value == ():
        return isinstance(value, tuple)
    return is_pair(value) and is_between(value[0], 1, many - 1) and is_between(value[1], value[0] + 1, many)


def is_growth(value):
    """Whether a value is a GROWTH."""
    if not isinstance(value, tuple) or len(value) != 3:
        return False
    lines, chain, again = value
    if not isinstance(lines, tuple) or len(lines) > MOST_LINES:
        return False
    if not all([is_line(line, place, 3) for place, line in enumerate(lines)]):
        return False
    if not isinstance(chain, tuple) or not 1 <= len(chain) <= MOST_STEPS:
        return False
    return all([is_step(step, place, len(lines)) for place, step in enumerate(chain)]) and is_again(again, len(chain))


def need_growth(paper):
    """Raise BadPaper unless this is a GROWTH."""
    if not is_growth(paper):
        raise BadPaper("growth")


def grown(paper, many):
    """The family that the GROWTH is when it is grown so many times, and the told one's way."""
    need_growth(paper)
    need_between(many, 1, MOST_TIMES)
    lines, chain, again = paper
    if again:
        first, behind = again
        chain = chain[:first] + chain[first:behind] * many + chain[behind:]
    told = list(lines)
    way = ()
    for mark, is_alive, before, loop, after in chain:
        # all of these members are in the family, so there is no need to build too wide ones
        if len(before) + len(loop) * many + len(after) > MOST_CHILDREN:
            raise TooGreat(MOST_CHILDREN)
        children = before + loop * many + after
        if TOLD in children:
            way = (children.index(TOLD),) + way
        told.append((mark, is_alive, tuple([len(told) - 1 if child == TOLD else child for child in children])))
    shelf = Shelf()
    return within_bounds(shelf.short(shelf.keep_family(told))), way


def limit(deal, other, paper):
    """The fraction to which the told one's quotient tends."""
    need_deals(deal, other)
    need_growth(paper)
    lines, chain, again = paper
    marks = [line[0] for line in lines] + [step[0] for step in chain]
    if any([mark >= deal[0] for mark in marks]):
        raise BadPaper("growth")
    limits = Limits(deal, other, lines)
    for step in chain:
        if not limits.add(step):
            raise BadPaper("growth")
    if again == ():
        return limits.product(0, len(chain))
    first, behind = again
    is_back = limits.pairs[behind - 1] == limits.pairs[first - 1]
    if not is_back or not is_less(limits.product(first, behind), WHOLE):
        raise BadPaper("growth")
    return NOTHING


class Limits:
    """The pairs of ranks of the STEPS of a GROWTH, and their quotients as the loops are repeated without end."""

    def __init__(self, deal, other, lines):
        self.deal = deal
        self.other = other
        self.lines = []
        for mark, is_alive, children in lines:
            row = self.row_behind((0, 0), [self.lines[child] for child in children])
            self.lines.append(self.closing(row, mark, is_alive).ranks)
        self.pairs = []
        self.quotients = []

    def closing(self, row, mark, is_alive):
        """How a member with this row closes."""
        return closings_of(self.deal, self.other, row)[2 * mark + (1 if is_alive else 0)]

    def row_behind(self, row, pairs):
        """The pair of stands behind lines with these pairs of ranks."""
        stand, far_stand = row
        for rank, far_rank in pairs:
            stand, far_stand = self.deal[2][stand][rank], self.other[2][far_stand][far_rank]
        return stand, far_stand

    def sums(self, pairs):
        """The sums of the weights of such lines, by the first and by the second deal."""
        return sum([self.deal[1][pair[0]] for pair in pairs]), sum([self.other[1][pair[1]] for pair in pairs])

    def pairs_of(self, numbers):
        """The pairs of ranks of lines with these numbers; the told line is the step ahead."""
        return [self.pairs[-1] if number == TOLD else self.lines[number] for number in numbers]

    def add(self, step):
        """Add a STEP; return whether it isn't refused."""
        mark, is_alive, before, loop, after = step
        rows = [self.pairs_of(numbers) for numbers in (before, loop, after)]
        ahead = self.row_behind((0, 0), rows[0])
        closing = self.closing(self.row_behind(ahead, rows[2]), mark, is_alive)
        if loop and (self.row_behind(ahead, rows[1]) != ahead or self.sums(rows[1])[0] == 0):
            return False
        if not self.pairs:
            quotient = closing.own()
        else:
            quotient = self.quotient(closing, rows[1] if loop else rows[0] + rows[2])
        self.pairs.append(closing.ranks)
        self.quotients.append(quotient)
        return quotient is not None

    def quotient(self, closing, weighed):
        """What the quotient of the told one is multiplied by; None if it has nothing by the second deal."""
        weight, far_weight = self.sums(self.pairs[-1:])
        if closing.far_take != "lines" or far_weight == 0:
            return None
        if closing.take != "lines" or weight == 0:
            return NOTHING
        own, far_own = self.sums(weighed)
        return in_lowest(weight * far_own, far_weight * own)

    def product(self, first, behind):
        """The product of the quotients of some steps."""
        part = WHOLE
        for quotient in self.quotients[first:behind]:
            part = multiplied(part, quotient)
        return part
