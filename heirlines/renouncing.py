"""Members who renounce, so that another one is heir."""

from heirlines.checks import is_ascending
from heirlines.choices import START, Choices, behind_child
from heirlines.counts import all_ways
from heirlines.errors import BadPaper, BadWay, TooGreat
from heirlines.lines import MOST_SMALL, need_family, need_small
from heirlines.papers import is_costs, is_scale, told_scale
from heirlines.readings import need_read
from heirlines.shelf import Shelf, short_form
from heirlines.ways import member_path, need_member


def need_lot(family, lot):
    """Raise BadWay unless this is a LOT of the family."""
    if not isinstance(lot, tuple):
        raise BadWay(lot)
    for place, item in enumerate(lot):
        path = member_path(family, item)
        if path is None or not family[path[-1]][1] or not is_ascending(lot[max(0, place - 1):place + 1]):
            raise BadWay(item)


def need_renouncers(family, lot):
    """Return the LOT itself, or raise what is wrong with it."""
    need_family(family)
    need_lot(family, lot)
    return lot


def behind_lot(family, lot):
    """The family in which the members of a LOT are dead."""
    need_renouncers(family, lot)
    shelf = Shelf()
    top = shelf.keep_family(family)
    for way in lot:
        top = shelf.dead_at(top, way)
    return shelf.short(top)


def renounced(custom, line, scales, is_member):
    """The least numbers of renouncing members for all a line can come to, from those of its children."""
    mark, is_alive, _ = line
    row = {START: 0}
    for scale in scales:
        row = behind_child(custom[3], row, scale)
    told = {}
    for (stand, held), cost in row.items():
        lives = [(1 if is_alive else 0, cost)]
        if is_alive and not is_member:
            lives.append((0, cost + 1))
        for life, own_cost in lives:
            rank, pick = custom[4][mark][life][stand]
            key = (rank, (pick == "self" and is_member) or (pick == "line" and held))
            if key not in told or own_cost < told[key]:
                told[key] = own_cost
    return told


class Floors:
    """The least numbers of renouncing members, for each line of a SHORT FORM and on the way to a member."""

    def __init__(self, custom, lines):
        self.custom = custom
        self.lines = lines
        self.least = []
        for line in lines:
            self.least.append(renounced(custom, line, [self.least[child] for child in line[2]], False))

    def scales_on(self, path, way, level, below):
        """The scales of the children of the member on this level of the way."""
        scales = [self.least[child] for child in self.lines[path[level]][2]]
        if level < len(way):
            scales[way[level]] = below
        return scales

    def led(self, way):
        """The scales of the lines on the way, from the member's to the founder's."""
        path = member_path(self.lines, way)
        scales = []
        below = None
        for level in reversed(range(len(path))):
            children = self.scales_on(path, way, level, below)
            below = renounced(self.custom, self.lines[path[level]], children, level == len(way))
            scales.append(below)
        return scales

    def fewest(self, way):
        """The FEWEST of a member."""
        return min([cost for key, cost in self.led(way)[-1].items() if key[1]], default=None)

    def lot(self, way):
        """A LOT of fewest members that brings the member in."""
        path = member_path(self.lines, way)
        led = self.led(way)[::-1]
        fewest = self.fewest(way)
        key = [one for one, cost in led[0].items() if one[1] and cost == fewest][0]
        lot = []
        waiting = []
        for level, number in enumerate(path):
            if led[level][key] == 0:
                break
            below = led[level + 1] if level < len(way) else None
            is_member = level == len(way)
            pairs, is_alive = self.chosen(number, self.scales_on(path, way, level, below), is_member, key)
            if not is_alive and self.lines[number][1]:
                lot.append(way[:level])
            for place, child in enumerate(self.lines[number][2]):
                if is_member or place != way[level]:
                    waiting.append((way[:level] + (place,), child, pairs[place]))
            key = None if is_member else pairs[way[level]]
        return tuple(sorted(lot + self.lots_below(waiting)))

    def chosen(self, number, scales, is_member, key):
        """What the children of a line come to, and whether its member stays, for what the line comes to."""
        mark, is_alive, _ = self.lines[number]
        word = "lives" if is_member else None
        pairs, _, stays = Choices(self.custom, {}, (mark, is_alive, scales, word, is_member)).choice(key)
        return pairs, stays

    def lots_below(self, waiting):
        """Those who renounce in lines that come to something; lines in which nobody does are passed over."""
        lot = []
        while waiting:
            way, number, key = waiting.pop()
            if self.least[number][key] == 0:
                continue
            scales = [self.least[child] for child in self.lines[number][2]]
            pairs, is_alive = self.chosen(number, scales, False, key)
            if not is_alive and self.lines[number][1]:
                lot.append(way)
            for place, child in enumerate(self.lines[number][2]):
                waiting.append((way + (place,), child, pairs[place]))
        return lot


def floors_of(custom, family):
    """The least numbers for a family that is known to be one."""
    return Floors(custom, short_form(family))


def need_asked(custom, family, way):
    """Raise unless this is a member of a family of the custom's marks."""
    need_read(custom, family)
    need_member(family, way)


def fewest_renouncing(custom, family, way):
    """The FEWEST of the member."""
    need_asked(custom, family, way)
    return floors_of(custom, family).fewest(way)


def renouncing_lot(custom, family, way):
    """A LOT of fewest members that brings the member in, or None."""
    need_asked(custom, family, way)
    floors = floors_of(custom, family)
    fewest = floors.fewest(way)
    if fewest is None:
        return None
    if fewest > MOST_SMALL:
        raise TooGreat(MOST_SMALL)
    return floors.lot(way)


def all_fewest(custom, family):
    """All members whose FEWEST isn't None, each with it."""
    need_read(custom, family)
    need_small(family)
    floors = floors_of(custom, family)
    pairs = [(way, floors.fewest(way)) for way in all_ways(family)]
    return tuple([pair for pair in pairs if pair[1] is not None])


def floor_paper(custom, family, way):
    """A FLOOR that holds and shows FEWEST."""
    need_asked(custom, family, way)
    floors = floors_of(custom, family)
    many = len(custom[2])
    least = tuple([tuple([scale.get((rank, False)) for rank in range(many)]) for scale in floors.least])
    return least, tuple([told_scale(scale, many) for scale in floors.led(way)])


def is_floor(value, lines, way, many):
    """Whether a value has the form of a FLOOR."""
    if not isinstance(value, tuple) or len(value) != 2:
        return False
    least, led = value
    if not isinstance(least, tuple) or len(least) != len(lines) or not isinstance(led, tuple):
        return False
    if len(led) != len(way) + 1 or not all([is_costs(row, many) for row in least]):
        return False
    return all([is_scale(row, many) for row in led])


def costs_of(row):
    """The scale that a row of LEAST tells."""
    return {(rank, False): cost for rank, cost in enumerate(row) if cost is not None}


def led_costs_of(row):
    """The scale that a row of LED tells."""
    told = {}
    for rank, (own, others) in enumerate(row):
        for side, cost in ((True, own), (False, others)):
            if cost is not None:
                told[(rank, side)] = cost
    return told


def is_allowed(scale, allowed, many, sides):
    """Whether no cost of a scale is above what is allowed."""
    for key in [(rank, side) for rank in range(many) for side in sides]:
        if key in allowed and (key not in scale or scale[key] > allowed[key]):
            return False
    return True


def floor_shows(custom, family, way, paper):
    """What a FLOOR shows."""
    need_asked(custom, family, way)
    lines = short_form(family)
    many = len(custom[2])
    if not is_floor(paper, lines, way, many):
        raise BadPaper("form")
    least = [costs_of(row) for row in paper[0]]
    for number, line in enumerate(lines):
        allowed = renounced(custom, line, [least[child] for child in line[2]], False)
        if not is_allowed(least[number], allowed, many, (False,)):
            raise BadPaper("lines")
    path = member_path(lines, way)
    led = [led_costs_of(row) for row in paper[1]]
    for place, scale in enumerate(led):
        level = len(way) - place
        scales = [least[child] for child in lines[path[level]][2]]
        if place > 0:
            scales[way[level]] = led[place - 1]
        if not is_allowed(scale, renounced(custom, lines[path[level]], scales, place == 0), many, (True, False)):
            raise BadPaper("way")
    return min([cost for key, cost in led[-1].items() if key[1]], default=None)
