"""Families that are told by lines."""

from heirlines.checks import is_between, is_number_row, is_truth, need_marks
from heirlines.errors import BadFamily, TooGreat

MOST_LINES = 2000
MOST_CHILDREN = 600
MOST_MEMBERS = 10 ** 60
MOST_SMALL = 300


def is_line(value, place, marks):
    """Whether a value can stand as the LINE with the number place."""
    if not isinstance(value, tuple) or len(value) != 3:
        return False
    mark, is_alive, children = value
    if not is_between(mark, 0, marks - 1) or not is_truth(is_alive):
        return False
    return is_number_row(children, MOST_CHILDREN, place - 1)


def is_row_of_lines(value):
    """Whether a value is a tuple of as many things as a family may have."""
    return isinstance(value, tuple) and 1 <= len(value) <= MOST_LINES


def wrong_line(family, marks):
    """The number of the first thing that is no LINE, or None."""
    for place, line in enumerate(family):
        if not is_line(line, place, marks):
            return place
    return None


def is_told(value, marks):
    """Whether a value is a family, of any number of members."""
    return is_row_of_lines(value) and wrong_line(value, marks) is None


def need_lines(family, marks):
    """Return the family, of any number of members, or raise BadFamily."""
    if not is_row_of_lines(family):
        raise BadFamily(None)
    place = wrong_line(family, marks)
    if place is not None:
        raise BadFamily(place)
    return family


def need_family(family, marks=3):
    """Return the family itself, or raise what is wrong with it."""
    need_marks(marks)
    need_lines(family, marks)
    if line_sizes(family)[-1] > MOST_MEMBERS:
        raise BadFamily(None)
    return family


def line_sizes(lines):
    """How many members there are in each line."""
    sizes = []
    for line in lines:
        sizes.append(1 + sum([sizes[child] for child in line[2]]))
    return sizes


def line_heights(lines):
    """For each line the greatest level of a member, from the line's own first one."""
    heights = []
    for line in lines:
        heights.append(max([heights[child] + 1 for child in line[2]], default=0))
    return heights


def how_high(family):
    """The greatest LEVEL of a member."""
    return line_heights(need_family(family))[-1]


def need_small(lines):
    """Raise TooGreat(300) unless the family is SMALL."""
    if line_sizes(lines)[-1] > MOST_SMALL:
        raise TooGreat(MOST_SMALL)


def within_bounds(lines):
    """Return a SHORT FORM that came of a change, unless it is too great to be told."""
    if max([len(line[2]) for line in lines]) > MOST_CHILDREN:
        raise TooGreat(MOST_CHILDREN)
    if line_sizes(lines)[-1] > MOST_MEMBERS:
        raise TooGreat(MOST_MEMBERS)
    if len(lines) > MOST_LINES:
        raise TooGreat(MOST_LINES)
    return lines
