"""Members counted, numbered and found in three orders."""

from heirlines.checks import need_count, need_order, need_who
from heirlines.lines import line_heights, need_family, need_small
from heirlines.packs import LevelPacks, is_of, line_counts
from heirlines.shelf import Shelf, short_form
from heirlines.ways import need_member


def how_many(family, who=(None, None)):
    """How many members are of WHO."""
    need_family(family)
    need_who(who)
    return line_counts(family, who)[-1]


def levels(family, who=(None, None)):
    """How many members of WHO there are on each level."""
    lines = short_form(need_family(family))
    need_who(who)
    packs = LevelPacks(lines, who)
    numbers = packs.spread(packs.packs[-1])
    return tuple(numbers + [0] * (line_heights(lines)[-1] + 1 - len(numbers)))


def number_of(family, order, who, way):
    """How many members of WHO come ahead of the member."""
    lines = short_form(need_family(family))
    need_order(order)
    need_who(who)
    path = need_member(lines, way)
    if order == "levels":
        return level_number(lines, who, path, way)
    counts = line_counts(lines, who)
    number = 0
    for level, place in enumerate(way):
        line = lines[path[level]]
        number += sum([counts[child] for child in line[2][:place]])
        if order == "first" and is_of(line, who):
            number += 1
    if order == "last":
        number += sum([counts[child] for child in lines[path[-1]][2]])
    return number


def level_number(lines, who, path, way):
    """The number of a member in the order of levels."""
    packs = LevelPacks(lines, who)
    number = sum(packs.spread(packs.packs[-1])[:len(way)])
    for level, place in enumerate(way):
        elder = sum([packs.packs[child] for child in lines[path[level]][2][:place]])
        number += packs.on_level(elder, len(way) - level - 1)
    return number


def find(family, order, who, number):
    """The member of WHO with this number, or None."""
    lines = short_form(need_family(family))
    need_order(order)
    need_who(who)
    need_count(number)
    counts = line_counts(lines, who)
    if number >= counts[-1]:
        return None
    if order == "levels":
        return find_by_level(lines, who, number)
    return find_by_line(lines, who, counts, order, number)


def find_by_level(lines, who, number):
    """The member of WHO with this number in the order of levels, which is there."""
    packs = LevelPacks(lines, who)
    level = 0
    for many in packs.spread(packs.packs[-1]):
        if number < many:
            break
        number -= many
        level += 1
    return packs.find_below(len(lines) - 1, level, number)


def find_by_line(lines, who, counts, order, number):
    """The member of WHO with this number in "first" or "last", which is there."""
    at = len(lines) - 1
    way = []
    while True:
        own = 1 if is_of(lines[at], who) else 0
        if order == "first":
            if number < own:
                return tuple(way)
            number -= own
        elif own == 1 and number == counts[at] - 1:
            return tuple(way)
        place, number = child_with(lines[at][2], counts, number)
        way.append(place)
        at = lines[at][2][place]


def child_with(children, counts, number):
    """The place of the child whose line has the thing with this number, and its number in this line."""
    place = 0
    while number >= counts[children[place]]:
        number -= counts[children[place]]
        place += 1
    return place, number


def place_counts(shelf, target):
    """For each line of a shelf how many places the target has in it."""
    counts = []
    for number, line in enumerate(shelf.lines):
        counts.append(1 if number == target else sum([counts[child] for child in line[2]]))
    return counts


def places(family, other):
    """How many places the other family has in the family."""
    need_family(family)
    need_family(other)
    shelf = Shelf()
    top = shelf.keep_family(family)
    return place_counts(shelf, shelf.keep_family(other))[top]


def place_at(family, other, number):
    """The place with so many places ahead of it, or None."""
    need_family(family)
    need_family(other)
    need_count(number)
    shelf = Shelf()
    at = shelf.keep_family(family)
    target = shelf.keep_family(other)
    counts = place_counts(shelf, target)
    if number >= counts[at]:
        return None
    way = []
    while at != target:
        children = shelf.lines[at][2]
        place, number = child_with(children, counts, number)
        way.append(place)
        at = children[place]
    return tuple(way)


def all_ways(lines):
    """The ways of all members, ascending; for small families alone."""
    ways = []
    waiting = [((), len(lines) - 1)]
    while waiting:
        way, at = waiting.pop()
        ways.append(way)
        for place, child in reversed(list(enumerate(lines[at][2]))):
            waiting.append((way + (place,), child))
    return tuple(ways)


def members(family):
    """The ways of all members of a SMALL family, ascending."""
    need_small(need_family(family))
    return all_ways(family)
