"""Which families can come of a family by deeds, and how."""

from heirlines.deeds import MOST_DEEDS
from heirlines.errors import NothingBack, TooGreat
from heirlines.lines import MOST_LINES, line_sizes, need_family
from heirlines.packs import line_counts
from heirlines.twofold import Twofold


def can_become(line, far_line):
    """Whether a member can become another one by deeds, as far as the two lines tell."""
    if line[0] != far_line[0] or len(line[2]) > len(far_line[2]):
        return False
    return line[1] or (not far_line[1] and len(line[2]) == len(far_line[2]))


def is_led(twofold):
    """Whether deeds lead from the first family to the second one."""
    for pair in twofold.pairs:
        line, far_line = twofold.lines_of(pair)
        if not can_become(line, far_line):
            return False
    return True


def many_deeds(family, later):
    """How many deeds lead to a future."""
    births = line_sizes(later)[-1] - line_sizes(family)[-1]
    return births + line_counts(later, (None, False))[-1] - line_counts(family, (None, False))[-1]


def is_future(family, later):
    """Whether later is a future of the family."""
    need_family(family)
    need_family(later)
    return is_led(Twofold(family, later))


def need_future(family, later):
    """Both families together, or NothingBack if later is no future."""
    need_family(family)
    need_family(later)
    twofold = Twofold(family, later)
    if not is_led(twofold):
        raise NothingBack()
    return twofold


def need_near_future(family, later):
    """Both families together, if it takes at most 200 deeds."""
    twofold = need_future(family, later)
    if many_deeds(family, later) > MOST_DEEDS:
        raise TooGreat(MOST_DEEDS)
    return twofold


def deeds_to(family, later):
    """How many deeds lead to later."""
    need_future(family, later)
    return many_deeds(family, later)


def story_to(family, later):
    """The story to later: births by ascending way, behind them deaths by ascending way."""
    twofold = need_near_future(family, later)
    births = []
    deaths = []
    # a newborn member has no first line
    waiting = [((), twofold.top)]
    while waiting:
        way, pair = waiting.pop()
        mark, is_alive, children = twofold.shelf.lines[pair[1]]
        if pair[0] is None:
            births.append(("birth", way[:-1], mark))
            first = (None,) * len(children)
        else:
            line = twofold.shelf.lines[pair[0]]
            first = line[2] + (None,) * (len(children) - len(line[2]))
        if not is_alive and (pair[0] is None or line[1]):
            deaths.append(("death", way))
        below = list(zip(first, children))
        for place in reversed(range(len(below))):
            if below[place][0] != below[place][1]:
                waiting.append((way + (place,), below[place]))
    return tuple(births + deaths)


class Orders:
    """In how many orders the deeds to a future can stand, and at how many families they can stop.

    A birth comes behind the birth of the parent and that of the elder sibling,
    a death behind the member's own birth and its children's. So each deed has
    one other ahead of it at most, and all deeds form trees. In a tree the deeds
    at and behind each one are counted: all orders of MANY deeds, divided by
    these numbers, are the orders that are possible.
    """

    def __init__(self, twofold):
        self.lines = twofold.shelf.lines
        # for each line, as that of a newborn member: deeds behind the birth, their numbers multiplied, families
        self.newborn = {}
        known = {}
        for pair in twofold.pairs:
            if pair[0] == pair[1]:
                known[pair] = (0, 1, 1)
                continue
            own = self.chain(twofold.new_children(pair), twofold.dies(pair))
            for below in twofold.pairs_below(pair):
                own = (own[0] + known[below][0], own[1] * known[below][1], own[2] * known[below][2])
            known[pair] = own
        self.many, self.divisor, self.families = known[twofold.top]

    def chain(self, children, dies):
        """What the births of a member's children, with all in their lines, and its death come to."""
        many, divisor, families = (1, 1, 2) if dies else (0, 1, 1)
        for child in reversed(children):
            more, factor, below = self.behind_birth(child)
            many += more + 1
            divisor *= factor * many
            families = below * families + 1
        return many, divisor, families

    def behind_birth(self, number):
        """What comes behind the birth of a member with this line."""
        if number not in self.newborn:
            self.add_newborn(number)
        return self.newborn[number]

    def add_newborn(self, top):
        """Note what comes behind a birth, for all lines below first."""
        waiting = [top]
        while waiting:
            number = waiting[-1]
            _, is_alive, children = self.lines[number]
            unknown = [child for child in children if child not in self.newborn]
            if unknown:
                waiting += unknown
            else:
                self.newborn[number] = self.chain(children, not is_alive)
                waiting.pop()

    def many_rows(self):
        """How many rows of deeds there are."""
        rows = 1
        for number in range(2, self.many + 1):
            rows *= number
        return rows // self.divisor


def stories(family, later):
    """How many rows of deeds lead to later."""
    return Orders(need_near_future(family, later)).many_rows()


def between(family, later):
    """How many families are between the two."""
    return Orders(need_near_future(family, later)).families


def within_lines(shelf, top):
    """The SHORT FORM, if it has no more lines than may be told."""
    lines = shelf.short(top)
    if len(lines) > MOST_LINES:
        raise TooGreat(MOST_LINES)
    return lines


def latest_past(family, other):
    """The LATEST common past."""
    need_family(family)
    need_family(other)
    if family[-1][0] != other[-1][0]:
        raise NothingBack()
    twofold = Twofold(family, other)
    shelf = twofold.shelf
    pasts = {}
    for pair in twofold.pairs:
        line, far_line = twofold.lines_of(pair)
        if pair[0] == pair[1]:
            pasts[pair] = pair[0]
        elif line[0] == far_line[0]:
            children = []
            for below in twofold.pairs_below(pair):
                if below not in pasts:
                    break
                children.append(pasts[below])
            is_dead = not line[1] and not far_line[1] and len(line[2]) == len(far_line[2]) == len(children)
            pasts[pair] = shelf.keep(line[0], not is_dead, tuple(children))
    return within_lines(shelf, pasts[twofold.top])


def can_join(line, far_line):
    """Whether two members can become one by deeds, as far as the two lines tell."""
    if line[0] != far_line[0]:
        return False
    if len(line[2]) < len(far_line[2]):
        return line[1]
    return len(line[2]) == len(far_line[2]) or far_line[1]


def earliest_future(family, other):
    """The EARLIEST common future."""
    need_family(family)
    need_family(other)
    twofold = Twofold(family, other)
    shelf = twofold.shelf
    futures = {}
    for pair in twofold.pairs:
        line, far_line = twofold.lines_of(pair)
        if not can_join(line, far_line):
            raise NothingBack()
        children = [futures[below] for below in twofold.pairs_below(pair)]
        longer = line[2] if len(line[2]) > len(far_line[2]) else far_line[2]
        children += longer[len(children):]
        futures[pair] = shelf.keep(line[0], line[1] and far_line[1], tuple(children))
    return within_lines(shelf, futures[twofold.top])
