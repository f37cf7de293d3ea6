"""Members that are so many levels up and down from a member."""

from heirlines.checks import need_count, need_who
from heirlines.lines import need_family
from heirlines.packs import LevelPacks
from heirlines.shelf import short_form
from heirlines.ways import need_member


def kin_numbers(family, way, who):
    """For each UP, and each DOWN, how many members of WHO are (UP, DOWN) from the member."""
    lines = short_form(need_family(family))
    path = need_member(lines, way)
    need_who(who)
    packs = LevelPacks(lines, who)
    numbers = []
    # the line from which one came up is left out, one level further down
    left_out = 0
    for at in reversed(path):
        numbers.append(tuple(packs.spread(packs.packs[at] - left_out)))
        left_out = packs.packs[at] << packs.width
    return tuple(numbers)


def kin_found(family, way, who, up, down, number):
    """The member of WHO that is (up, down) from the member behind so many others, or None."""
    lines = short_form(need_family(family))
    path = need_member(lines, way)
    need_who(who)
    need_count(up)
    need_count(down)
    need_count(number)
    if up > len(way):
        return None
    level = len(way) - up
    packs = LevelPacks(lines, who)
    if up == 0 or down == 0:
        if number >= packs.on_level(packs.packs[path[level]], down):
            return None
        return way[:level] + packs.find_below(path[level], down, number)
    for place, child in enumerate(lines[path[level]][2]):
        many = 0 if place == way[level] else packs.on_level(packs.packs[child], down - 1)
        if number < many:
            return way[:level] + (place,) + packs.find_below(child, down - 1, number)
        number -= many
    return None
