"""What the line of one member can come to by deeds, and by how few.

What is held in a row, or claimed in a line, is told by a pair: the stand or
the rank, and whether the claimant is wanted. A dict has the least number of
deeds for each pair that can be come to.
"""

from heapq import heappop, heappush

from heirlines.search import TableSearch

START = (0, False)


class NewbornSearch(TableSearch):
    """Least numbers of deeds for lines of newborn members: a birth each, and a death each that is dead."""

    def weight(self, is_alive):
        """The deeds of one newborn member."""
        return 1 if is_alive else 2


def led_side(keep, held, side):
    """Whether the claimant that is held behind a child is wanted."""
    if keep == "old":
        return held
    return side if keep == "new" else False


def behind_child(read, row, scale):
    """The row behind a child with this scale."""
    told = {}
    for (stand, held), cost in row.items():
        for (rank, side), more in scale.items():
            behind, keep = read[stand][rank]
            key = (behind, led_side(keep, held, side))
            if key not in told or cost + more < told[key]:
                told[key] = cost + more
    return told


def with_newborn(read, row, newborn):
    """Behind any newborn children: for each pair the least number, the pair ahead of the last one, and that one's."""
    told = {}
    queue = []
    for pair, cost in row.items():
        told[pair] = (cost, None, None)
        heappush(queue, (cost, pair))
    while queue:
        cost, pair = heappop(queue)
        if cost > told[pair][0]:
            continue
        for (rank, side), more in newborn.items():
            behind, keep = read[pair[0]][rank]
            key = (behind, led_side(keep, pair[1], side))
            if key not in told or cost + more < told[key][0]:
                told[key] = (cost + more, pair, rank)
                heappush(queue, (cost + more, key))
    return told


class Choices:
    """All choices for one member: what its children come to, newborn ones, and the life that it closes with.

    The member is a tuple: its mark, whether it lives, the scales of its
    children, its TERM ("lives", "dead" or None), and whether it is wanted.
    """

    def __init__(self, custom, newborn, member):
        mark, is_alive, scales, word, is_wanted = member
        self.custom = custom
        self.scales = scales
        self.rows = [{START: 0}]
        for scale in scales:
            self.rows.append(behind_child(custom[3], self.rows[-1], scale))
        # the dead have no children any more
        self.grown = with_newborn(custom[3], self.rows[-1], newborn if is_alive else {})
        # for each pair the least number, the pair of the row, and the life
        self.ends = {}
        for pair, (cost, _, _) in self.grown.items():
            if is_alive and word != "dead":
                self.end(mark, True, pair, cost, is_wanted)
            if word != "lives":
                self.end(mark, False, pair, cost + 1 if is_alive else cost, is_wanted)

    def end(self, mark, is_alive, pair, cost, is_wanted):
        """Note what the line comes to if it closes so."""
        rank, pick = self.custom[4][mark][1 if is_alive else 0][pair[0]]
        key = (rank, (pick == "self" and is_wanted) or (pick == "line" and pair[1]))
        if key not in self.ends or cost < self.ends[key][0]:
            self.ends[key] = (cost, pair, is_alive)

    def scale(self):
        """For each pair of the line the least number of deeds."""
        return {key: told[0] for key, told in self.ends.items()}

    def choice(self, key):
        """A choice with the least number: the pairs of the children, the ranks of newborn ones, and the life."""
        _, pair, is_alive = self.ends[key]
        newborn = []
        while self.grown[pair][1] is not None:
            newborn.append(self.grown[pair][2])
            pair = self.grown[pair][1]
        children = []
        for place in reversed(range(len(self.scales))):
            ahead, child = self.last_child(place, pair)
            children.append(child)
            pair = ahead
        return children[::-1], newborn[::-1], is_alive

    def last_child(self, place, pair):
        """The pair of the row ahead of a child, and that of the child's line, by which the row comes to a pair."""
        for (stand, held), cost in self.rows[place].items():
            for (rank, side), more in self.scales[place].items():
                behind, keep = self.custom[3][stand][rank]
                is_due = cost + more == self.rows[place + 1][pair]
                if is_due and pair == (behind, led_side(keep, held, side)):
                    return (stand, held), (rank, side)
        return None
