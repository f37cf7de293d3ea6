"""Members, told by their ways."""

from heirlines.checks import is_number_row, is_whole_row
from heirlines.errors import BadWay
from heirlines.lines import MOST_CHILDREN, MOST_LINES, need_family
from heirlines.shelf import Shelf


def member_path(lines, way):
    """The numbers of the lines from the founder's down to the member's; None of any value that is no member's way."""
    if not is_whole_row(way):
        return None
    path = [len(lines) - 1]
    for place in way:
        children = lines[path[-1]][2]
        if not 0 <= place < len(children):
            return None
        path.append(children[place])
    return path


def need_member(lines, way):
    """The numbers of the lines from the founder's down to the member's, or BadWay."""
    path = member_path(lines, way)
    if path is None:
        raise BadWay(way)
    return path


def need_way(family, way):
    """Return the way itself, or raise BadWay if no member has it."""
    need_member(need_family(family), way)
    return way


def line_at(family, way):
    """The line of the member, in SHORT FORM."""
    path = need_member(need_family(family), way)
    shelf = Shelf()
    return shelf.short(shelf.keep_family(family[:path[-1] + 1]))


def own_line(family, way):
    """The member's mark, whether it lives, and how many children it has."""
    mark, is_alive, children = family[need_member(need_family(family), way)[-1]]
    return mark, is_alive, len(children)


def is_any_way(value):
    """Whether a value can be the way of a member of some family."""
    return is_number_row(value, MOST_LINES - 1, MOST_CHILDREN - 1)


def need_any_ways(way, other_way):
    """Raise BadWay of the first of the two that no member can have."""
    if not is_any_way(way):
        raise BadWay(way)
    if not is_any_way(other_way):
        raise BadWay(other_way)


def common_length(way, other_way):
    """How many numbers both ways begin with."""
    for level in range(min(len(way), len(other_way))):
        if way[level] != other_way[level]:
            return level
    return min(len(way), len(other_way))


def kin(way, other_way):
    """What the first member is to the second one."""
    need_any_ways(way, other_way)
    return kin_word(way, other_way)


def kin_word(way, other_way):
    """What the first member is to the second one, for any two ways."""
    level = common_length(way, other_way)
    if level == len(way):
        return "same" if level == len(other_way) else "above"
    if level == len(other_way):
        return "below"
    return "elder" if way[level] < other_way[level] else "younger"


def meeting(way, other_way):
    """The longest way that both begin with."""
    need_any_ways(way, other_way)
    return way[:common_length(way, other_way)]
