"""How a custom reads a family, line by line."""

from heirlines.checks import is_number_row
from heirlines.customs import need_custom
from heirlines.errors import BadNumber
from heirlines.lines import MOST_LINES, need_family, need_lines
from heirlines.shelf import Shelf


class Reader:
    """What a custom reads of the lines of a shelf, also of those that come later."""

    def __init__(self, custom, shelf):
        self.read = custom[3]
        self.close = custom[4]
        self.shelf = shelf
        self.ranks = []
        self.picks = []
        self.held = []

    def catch_up(self):
        """Read the lines that came on the shelf since the last time."""
        new_lines = self.shelf.lines[len(self.ranks):]
        for mark, is_alive, children in new_lines:
            stand, place = behind_row(self.read, [self.ranks[child] for child in children])
            rank, pick = self.close[mark][1 if is_alive else 0][stand]
            self.ranks.append(rank)
            self.picks.append(pick)
            self.held.append(place)

    def heir_of(self, top):
        """The heir of the family with this founder's line."""
        self.catch_up()
        if self.picks[top] == "none":
            return None
        way = []
        while self.picks[top] == "line":
            way.append(self.held[top])
            top = self.shelf.lines[top][2][self.held[top]]
        return tuple(way)


def behind_row(read, ranks):
    """The stand behind children with these ranks, and the place of the one whose claimant is held."""
    stand = 0
    held = None
    for place, rank in enumerate(ranks):
        stand, keep = read[stand][rank]
        if keep == "new":
            held = place
        elif keep == "none":
            held = None
    return stand, held


def need_read(custom, family):
    """Raise unless this is a custom and a family of its marks."""
    need_custom(custom)
    need_family(family, custom[0])


def need_told(custom, family):
    """Raise unless this is a custom and a family of its marks, of any number of members."""
    need_custom(custom)
    need_lines(family, custom[0])


def read_lines(custom, lines):
    """The founder's number on a new shelf, and a reader of this shelf, for a family that is known to be one."""
    shelf = Shelf()
    reader = Reader(custom, shelf)
    top = shelf.keep_family(lines)
    reader.catch_up()
    return top, reader


def heir_in(custom, lines):
    """The heir in a family that is known to be one."""
    top, reader = read_lines(custom, lines)
    return reader.heir_of(top)


def read_family(custom, family):
    """The founder's number on a new shelf, and a reader of this shelf."""
    need_read(custom, family)
    return read_lines(custom, family)


def rank_of(custom, family):
    """The rank of the founder's line."""
    top, reader = read_family(custom, family)
    return reader.ranks[top]


def reading(custom, family):
    """The rank and the claimant of each line of the SHORT FORM."""
    need_read(custom, family)
    shelf = Shelf()
    lines = shelf.short(shelf.keep_family(family))
    _, reader = read_family(custom, lines)
    holders = []
    for number, line in enumerate(lines):
        if reader.picks[number] == "none":
            holders.append(None)
        elif reader.picks[number] == "self":
            holders.append(())
        else:
            place = reader.held[number]
            holders.append((place,) + holders[line[2][place]])
    return tuple(list(zip(reader.ranks, holders)))


def stand_behind(custom, ranks):
    """The stand behind children with these ranks, and whose claimant is held."""
    need_custom(custom)
    if not is_number_row(ranks, MOST_LINES, len(custom[2]) - 1):
        raise BadNumber(ranks)
    return behind_row(custom[3], ranks)
