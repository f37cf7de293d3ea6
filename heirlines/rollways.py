"""What the lines of a ROLL can come to by all ways of filling, and by how many of them."""

from heirlines.choices import led_side
from heirlines.sidebyside import APART, close_pair, read_pair
from heirlines.ways import member_path

LIVES = {"living": (True,), "dead": (False,), "open": (False, True)}


class Lone:
    """How one custom reads, where it is to be known whether a claimant is wanted."""

    def __init__(self, custom):
        self.custom = custom
        self.start = (0, False)

    def behind(self, row, line):
        """The stand behind a child's line, and whether the claimant that is held there is wanted."""
        stand, keep = self.custom[3][row[0]][line[0]]
        return stand, led_side(keep, row[1], line[1])

    def closed(self, row, mark, is_alive, is_wanted):
        """The rank of a line, and whether its claimant is wanted."""
        rank, pick = self.custom[4][mark][1 if is_alive else 0][row[0]]
        return rank, (pick == "self" and is_wanted) or (pick == "line" and row[1])


def likeness(state):
    """A triple of both stands or ranks, and whether the claimants are "none", "same" or "unlike"."""
    return state[0], state[1], "unlike" if state[2] in APART else state[2]


class Both:
    """How two customs read side by side, where it is to be known whether their claimants are the same."""

    def __init__(self, custom, other):
        self.custom = custom
        self.other = other
        self.start = (0, 0, "none")

    def behind(self, row, line):
        """The state of the row behind a child's line."""
        return likeness(read_pair(self.custom, self.other, row, line))

    def closed(self, row, mark, is_alive, _):
        """The state of a line."""
        return likeness(close_pair(self.custom, self.other, row, mark, is_alive))


class Row:
    """All that a row of children can come to, read in their order or in any one.

    A key tells which children were read: how many, or a bit for each of them.
    """

    def __init__(self, reader, scales, is_ordered, is_counted):
        self.reader = reader
        self.scales = scales
        self.is_ordered = is_ordered
        self.is_counted = is_counted
        self.last_key = len(scales) if is_ordered else (1 << len(scales)) - 1
        self.rows = [{} for _ in range(self.last_key + 1)]
        self.rows[0][reader.start] = 1
        for key in range(self.last_key):
            for place, behind in self.nexts(key):
                self.read(self.rows[key], scales[place], self.rows[behind])

    def nexts(self, key):
        """The places of the children that may be read next, each with the key behind it."""
        if self.is_ordered:
            return [(key, key + 1)]
        return [(place, key | (1 << place)) for place in range(len(self.scales)) if not key & (1 << place)]

    def read(self, row, scale, told):
        """Read a child behind a row, and note what comes of it."""
        for state, many in row.items():
            for line, more in scale.items():
                behind = self.reader.behind(state, line)
                # ways are counted for small rolls alone, as there may be too many of them
                told[behind] = told.get(behind, 0) + many * more if self.is_counted else 1

    def ends(self):
        """All that the whole row can come to, with the number of ways."""
        return self.rows[self.last_key]

    def order_to(self, state):
        """The places of the children in an order, each with what its line comes to, by which the row comes to this."""
        order = []
        key = self.last_key
        while key != 0:
            key, state, place, line = self.step_to(key, state)
            order.append((place, line))
        return order[::-1]

    def step_to(self, key, state):
        """The key and state ahead of the last child, its place, and what its line comes to."""
        aheads = [key - 1] if self.is_ordered else [key & ~(1 << place) for place in range(len(self.scales))]
        for ahead in aheads:
            if ahead == key:
                continue
            place = [one for one, behind in self.nexts(ahead) if behind == key][0]
            for line in self.scales[place]:
                for own in self.rows[ahead]:
                    if self.reader.behind(own, line) == state:
                        return ahead, own, place, line
        return None


class RollWays:
    """For each ENTRY of a ROLL what its line can come to, with the number of ways of filling."""

    def __init__(self, reader, roll, is_counted):
        self.reader = reader
        self.roll = roll
        self.is_counted = is_counted
        self.scales = []
        for number in range(len(roll)):
            self.scales.append(self.scale(number, self.row(number, None, None), False))

    def row(self, number, place, scale):
        """The row of the children of an ENTRY; perhaps one of them, on a way, has a scale of its own."""
        _, _, children, is_ordered = self.roll[number]
        scales = [self.scales[child] for child in children]
        if place is not None:
            scales[place] = scale
        return Row(self.reader, scales, is_ordered, self.is_counted)

    def ends(self, number, row, is_wanted):
        """All ways to close a line, as tuples (state of the line, state of the row, mark, life, number)."""
        marks, life, _, _ = self.roll[number]
        found = []
        for state, many in row.ends().items():
            for mark in marks:
                for is_alive in LIVES[life]:
                    found.append((self.reader.closed(state, mark, is_alive, is_wanted), state, mark, is_alive, many))
        return found

    def scale(self, number, row, is_wanted):
        """All that a line can come to, with the number of ways."""
        told = {}
        for line, _, _, _, many in self.ends(number, row, is_wanted):
            told[line] = told.get(line, 0) + many if self.is_counted else 1
        return told

    def rows_on(self, way):
        """The rows and scales of the lines on the way of a wanted member, from the member's to the founder's."""
        path = member_path(self.roll, way)
        told = []
        row = self.row(path[-1], None, None)
        scale = self.scale(path[-1], row, True)
        told.append((row, scale))
        for level in reversed(range(len(way))):
            row = self.row(path[level], way[level], scale)
            scale = self.scale(path[level], row, False)
            told.append((row, scale))
        return told

    def founder_scale(self, way):
        """All that the founder's line can come to, where this member is wanted."""
        return self.rows_on(way)[-1][1]
