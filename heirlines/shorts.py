"""Short forms, settled forms, and where two families differ."""

from heirlines.lines import line_heights, line_sizes, need_family
from heirlines.shelf import Shelf, short_form
from heirlines.twofold import Twofold


def short(family):
    """The SHORT FORM."""
    return short_form(need_family(family))


def read_alike(family, other):
    """Whether two families read alike."""
    need_family(family)
    need_family(other)
    return short_form(family) == short_form(other)


def looks_alike(line, far_line):
    """Whether two members look alike."""
    return line[0] == far_line[0] and line[1] == far_line[1] and len(line[2]) == len(far_line[2])


def first_apart(family, other):
    """The least way in both at which the members don't look alike."""
    need_family(family)
    need_family(other)
    shelf = Shelf()
    at, far_at = shelf.keep_family(family), shelf.keep_family(other)
    if at == far_at:
        return None
    way = []
    while looks_alike(shelf.lines[at], shelf.lines[far_at]):
        pairs = list(zip(shelf.lines[at][2], shelf.lines[far_at][2]))
        # lines that look alike but differ have a child that differs
        place = 0
        while pairs[place][0] == pairs[place][1]:
            place += 1
        way.append(place)
        at, far_at = pairs[place]
    return tuple(way)


def in_both(family, other):
    """How many ways are in both; where the lines read alike; where the members don't look alike."""
    need_family(family)
    need_family(other)
    twofold = Twofold(family, other)
    sizes = line_sizes(twofold.shelf.lines)
    counts = {}
    for pair in twofold.pairs:
        if pair[0] == pair[1]:
            counts[pair] = (sizes[pair[0]], sizes[pair[0]], 0)
        else:
            line, far_line = twofold.lines_of(pair)
            many = [counts[below] for below in twofold.pairs_below(pair)]
            unlike = 0 if looks_alike(line, far_line) else 1
            counts[pair] = (1 + sum([count[0] for count in many]), sum([count[1] for count in many]),
                            unlike + sum([count[2] for count in many]))
    return counts[twofold.top]


def settled(family):
    """The SETTLED FORM: children stand in an order that is the same however they stood."""
    lines = short_form(need_family(family))
    heights = line_heights(lines)
    by_height = [[] for _ in range(heights[-1] + 1)]
    for number, height in enumerate(heights):
        by_height[height].append(number)
    places = {}
    settled_lines = []
    for numbers in by_height:
        looks = {}
        for number in numbers:
            mark, is_alive, children = lines[number]
            looks[number] = (mark, is_alive, tuple(sorted([places[child] for child in children])))
        # lower lines are numbered by now, and by looks alone, so these numbers are
        found = {}
        for look in sorted(list(looks.values())):
            if look not in found:
                found[look] = len(settled_lines)
                settled_lines.append(look)
        for number in numbers:
            places[number] = found[looks[number]]
    return short_form(settled_lines)
