"""Ways up by which what one deal leaves of what another one gives is least.

A step is a pair: how its member closes, and its row as three tuples of pairs
of ranks, those before a loop, the loop, and those behind it; None stands
where the child is that the way comes from.
"""

from heirlines.parts import NOTHING, WHOLE, is_less, multiplied
from heirlines.weighing import Downward


def least_path(found):
    """The steps of a way up to the least of all fractions, from the told member, and AGAIN."""
    if found.least_of_all() == NOTHING:
        return Vanishing(found).path()
    # one that is reached comes first
    steps = tight_steps(found, True)
    if steps is None:
        steps = tight_steps(found, False)
    return steps, ()


def whole_row(weighing, closing):
    """The step of a member without a told child."""
    return closing, (weighing.ways.labels_to((0, 0), closing.row), (), ())


def any_step(weighing, closing, child):
    """A step over a told child, with any row."""
    ahead, behind = weighing.ways.walk_with(child, closing.row)
    return closing, (ahead + (None,) + behind, (), ())


def least_step(weighing, closing, child):
    """A step over a told child, with a row or a loop whose ratio is least."""
    _, walk, around = weighing.ways.least_with(child, closing.row)
    if walk is None:
        return closing, around
    return closing, (walk[0] + (None,) + walk[1], (), ())


def any_path(weighing, pair):
    """The steps of some way up to a pair of ranks by which something comes to the told member."""
    steps = []
    while pair is not None:
        closing, child = weighing.gains[pair]
        if child is None:
            steps.append(whole_row(weighing, closing))
        else:
            steps.append(any_step(weighing, closing, child))
        pair = child
    return tuple(steps[::-1])


class Tight:
    """The steps that lead from a least fraction just to another one, where all are above 0."""

    def __init__(self, found, is_reached):
        self.found = found
        self.weighing = found.weighing
        self.is_reached = is_reached

    def is_tight(self, closing, child):
        """Whether a child's fraction leads to that of the line; by some row, if that is asked for."""
        parts = self.found.parts
        sure = multiplied(self.weighing.sure_part(closing, child), parts[child])
        if is_less(parts[closing.ranks], sure):
            return False
        if multiplied(self.weighing.least_part(closing, child), parts[child]) != parts[closing.ranks]:
            return False
        return not self.is_reached or self.weighing.ways.least_with(child, closing.row)[1] is not None


def tight_steps(found, is_reached):
    """The steps up to a least fraction above 0, by rows alone if that is asked for, or None."""
    weighing = found.weighing
    tight = Tight(found, is_reached)
    steps = {}
    for closing in weighing.closings:
        if closing.own() == WHOLE and found.parts[closing.ranks] == WHOLE:
            steps.setdefault(closing.ranks, (whole_row(weighing, closing),))
    is_new = True
    while is_new:
        is_new = False
        for closing, child in weighing.edges:
            if child in steps and closing.ranks not in steps and tight.is_tight(closing, child):
                steps[closing.ranks] = steps[child] + (least_step(weighing, closing, child),)
                is_new = True
    least = [pair for pair in steps if found.parts[pair] == found.least_of_all()]
    return steps[least[0]] if least else None


class Vanishing:
    """Ways up by which nothing is left in the end."""

    def __init__(self, found):
        self.weighing = found.weighing

    def path(self):
        """The steps, and AGAIN; one that is reached comes first."""
        weighing = self.weighing
        for closing in weighing.closings:
            if closing.own() == NOTHING:
                return (whole_row(weighing, closing),), ()
        for closing, child in weighing.edges:
            if weighing.is_cut(closing, child):
                return any_path(weighing, child) + (any_step(weighing, closing, child),), ()
        for closing, child in weighing.edges:
            if weighing.sure_part(closing, child) == NOTHING and weighing.least_part(closing, child) == NOTHING:
                return any_path(weighing, child) + (least_step(weighing, closing, child),), ()
        edges = self.round_edges()
        ahead = any_path(weighing, edges[0][1])
        steps = tuple([least_step(weighing, closing, child) for closing, child in edges])
        return ahead + steps, (len(ahead), len(ahead) + len(steps))

    def round_edges(self):
        """The edges that lead from a pair of ranks to itself, with a product below 1."""
        downward = Downward()
        downward.parts = {pair: WHOLE for pair in self.weighing.gains}
        while True:
            for closing, child in self.weighing.edges:
                part = self.weighing.lesser_part(closing, child, downward.parts)
                edges = [] if part is None else downward.lower(closing, child, part)
                if edges:
                    return edges
