"""Who has how much by a deal."""

from heirlines.counts import all_ways
from heirlines.deals import need_dealt, taken
from heirlines.lines import need_small
from heirlines.parts import NOTHING, WHOLE, in_lowest, multiplied, need_told, weighed_sum
from heirlines.shelf import short_form
from heirlines.ways import need_member


class Dealing:
    """What comes to the lines of a family of what comes to their parents' lines."""

    def __init__(self, deal, family):
        # lines that aren't needed could take long to no end
        self.lines = short_form(family)
        pairs = taken(deal, self.lines)
        self.takes = [take for _, take in pairs]
        self.weights = [deal[1][rank] for rank, _ in pairs]
        # the sum of the weights of each line's children
        self.sums = [sum([self.weights[child] for child in line[2]]) for line in self.lines]

    def led(self, number, child):
        """Which part of what comes to a line comes to this child's line."""
        if self.takes[number] != "lines" or self.weights[child] == 0:
            return NOTHING
        return in_lowest(self.weights[child], self.sums[number])

    def share(self, way):
        """What the member has of the whole."""
        part = WHOLE
        number = len(self.lines) - 1
        for place in way:
            child = self.lines[number][2][place]
            part = multiplied(part, self.led(number, child))
            number = child
        return part if self.takes[number] == "self" else NOTHING

    def children_of(self, number):
        """The children's lines to which something comes, each once, with how many there are of it."""
        many = {}
        if self.takes[number] == "lines":
            for child in self.lines[number][2]:
                if self.weights[child] > 0:
                    many[child] = many.get(child, 0) + 1
        return list(many.items())

    def paid(self, marks):
        """For each mark which part of the whole its members have."""
        told = []
        for number, line in enumerate(self.lines):
            if self.takes[number] == "self":
                told.append([WHOLE if mark == line[0] else NOTHING for mark in range(marks)])
                continue
            children = self.children_of(number)
            own = []
            for mark in range(marks):
                parts = [(told[child][mark], self.weights[child] * many) for child, many in children]
                own.append(weighed_sum(parts, self.sums[number]) if parts else NOTHING)
            told.append(own)
        return tuple(told[-1])

    def receivers(self):
        """How many members have something."""
        told = []
        for number in range(len(self.lines)):
            own = 1 if self.takes[number] == "self" else 0
            told.append(own + sum([told[child] * many for child, many in self.children_of(number)]))
        return told[-1]


def share(deal, family, way):
    """The member's SHARE."""
    need_dealt(deal, family)
    need_member(family, way)
    part = Dealing(deal, family).share(way)
    need_told([part])
    return part


def shares(deal, family):
    """The members that have something, each with its SHARE."""
    need_dealt(deal, family)
    need_small(family)
    dealing = Dealing(deal, family)
    told = [(way, dealing.share(way)) for way in all_ways(family)]
    told = [(way, part) for way, part in told if part != NOTHING]
    need_told([part for _, part in told])
    return tuple(told)


def paid(deal, family):
    """For each mark the sum of its members' SHARES."""
    need_dealt(deal, family)
    parts = Dealing(deal, family).paid(deal[0])
    need_told(parts)
    return parts


def receivers(deal, family):
    """How many members have a SHARE above 0."""
    need_dealt(deal, family)
    return Dealing(deal, family).receivers()
