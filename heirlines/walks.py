"""Heirs and lines of claim by rules, stretch by stretch."""

from heapq import heappop, heappush

from heirlines.checks import need_count
from heirlines.lines import need_family
from heirlines.rules import counting_kinds, need_rule
from heirlines.shelf import short_form
from heirlines.ways import need_member


class Walk:
    """The stretches of all lines of a family by a rule.

    A stretch of a line is a pair (KIND, how many claims). One of a row is a
    triple (CHILD, FIRST, MANY).
    """

    def __init__(self, rule, lines):
        self.living = rule[1]
        self.dead = rule[2]
        self.sides = [side for side, _ in rule[3]]
        self.groups = counting_kinds(rule[3])
        self.lines = lines
        self.stretches = []
        for line in lines:
            self.stretches.append(self.line_stretches(line))

    def line_stretches(self, line):
        """The stretches of a line, whose children's are known."""
        mark, is_alive, children = line
        many = sum([triple[2] for triple in self.row(children)])
        own = [((mark, "self"), 1)]
        late = [((mark, "late"), many)] if many > 0 and self.dead[mark] else []
        past = [((mark, "past"), many)] if many > 0 else []
        if not is_alive:
            return late
        if self.living[mark] == "self":
            return own + late
        if self.living[mark] == "last":
            return past + own
        return past if self.living[mark] == "line" else []

    def row(self, children):
        """The stretches of a row, in the order in which the children's lines give them."""
        queue = []
        for place, child in enumerate(children):
            if self.stretches[child]:
                self.offer(queue, place, self.stretches[child], 0)
        given = []
        while queue:
            _, _, place, part = heappop(queue)
            parts = self.stretches[children[place]]
            given.append((place, 0 if part == 0 else parts[0][1], parts[part][1]))
            if part + 1 < len(parts):
                self.offer(queue, place, parts, part + 1)
        return given

    def offer(self, queue, place, parts, part):
        """Put a child's next stretch among those that wait, if its kind counts."""
        group = self.groups.get(parts[part][0])
        if group is not None:
            turn = place if self.sides[group] == "eldest" else -place
            heappush(queue, (group, turn, place, part))

    def many_claims(self, number):
        """How many claims the line with this number has."""
        return sum([many for _, many in self.stretches[number]])

    def claim(self, number):
        """The claimant of the family with this number, or None."""
        if number >= self.many_claims(len(self.lines) - 1):
            return None
        at = len(self.lines) - 1
        way = []
        while True:
            kind, many = self.stretches[at][0]
            if number >= many:
                number -= many
                kind = self.stretches[at][1][0]
            if kind[1] == "self":
                return tuple(way)
            place, number = given_by(self.row(self.lines[at][2]), number)
            way.append(place)
            at = self.lines[at][2][place]

    def own_number(self, at):
        """The number of a line's own member in this line's claims, or None."""
        ahead = 0
        for kind, many in self.stretches[at]:
            if kind[1] == "self":
                return ahead
            ahead += many
        return None

    def row_number(self, at, place, number):
        """The number in a line's claims of what a child's line has under a number, or None."""
        ahead = 0
        for kind, many in self.stretches[at]:
            if kind[1] != "self":
                for child, first, part in self.row(self.lines[at][2]):
                    if child == place and first <= number < first + part:
                        return ahead + number - first
                    ahead += part
                return None
            ahead += many
        return None


def given_by(row, number):
    """The child that gives a row's claim with this number, and its number in the child's line."""
    for place, first, many in row:
        if number < many:
            return place, first + number
        number -= many
    return None


def walked(rule, family):
    """The walk through a family."""
    need_rule(rule)
    need_family(family, rule[0])
    return Walk(rule, short_form(family))


def heir_by(rule, family):
    """The HEIR by the rule, a way or None."""
    return walked(rule, family).claim(0)


def kind_by(rule, family):
    """The KIND of the founder's line, or None."""
    first = walked(rule, family).stretches[-1][:1]
    return first[0][0] if first else None


def how_many_claims(rule, family):
    """The length of the line of claim."""
    walk = walked(rule, family)
    return walk.many_claims(len(walk.lines) - 1)


def claimant(rule, family, number):
    """The claimant with this NUMBER, or None."""
    walk = walked(rule, family)
    need_count(number)
    return walk.claim(number)


def place_in_claim(rule, family, way):
    """The NUMBER of the member in the line of claim, or None."""
    walk = walked(rule, family)
    path = need_member(walk.lines, way)
    number = walk.own_number(path[-1])
    for level in reversed(range(len(way))):
        if number is None:
            return None
        number = walk.row_number(path[level], way[level], number)
    return number


def stretches(rule, family):
    """The stretches of the founder's line."""
    return tuple(walked(rule, family).stretches[-1])


def row_stretches(rule, family):
    """The stretches of the founder's row."""
    walk = walked(rule, family)
    return tuple(walk.row(walk.lines[-1][2]))
