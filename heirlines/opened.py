"""Whether everybody can still come to be heir, for all families."""

from heapq import heappop, heappush

from heirlines.customs import need_custom
from heirlines.masks import Masks
from heirlines.search import Search
from heirlines.shelf import Shelf


class SetSearch(Search):
    """The sets of ranks, and of stands, to which lines and rows can come in futures, each with a least size."""

    def __init__(self, masks):
        self.masks = masks
        super().__init__(1)

    def closings(self, row):
        """Each set of ranks of a line with such a row."""
        found = []
        for mark in range(self.masks.custom[0]):
            for is_alive in (False, True):
                found.append((self.masks.ranks_of(mark, is_alive, row), mark, is_alive))
        return found

    def behind(self, row, line):
        """The set of stands behind a child."""
        return self.masks.behind(row, line)


NEEDS = 0
GOOD = 1


class Closing:
    """The sets of ranks that members' lines may need, with the least surroundings by which they do.

    One goes down from the founder: from what a member's line needs to the
    stands that are good behind its children, youngest child first, and from
    these, behind elder children, to what a child's line needs.
    """

    def __init__(self, custom):
        self.masks = Masks(custom)
        self.search = SetSearch(self.masks)
        # each set with its least size, the step that leads to it, and the set ahead of the step
        self.told = {}
        self.queue = []
        self.offer(0, (NEEDS, self.masks.holding()), None, None)
        while self.queue:
            size, state = heappop(self.queue)
            if size == self.told[state][0]:
                self.go_on(size, state)

    def offer(self, size, state, step, ahead):
        """Note that a step leads to this set with so many members."""
        if state not in self.told or size < self.told[state][0]:
            self.told[state] = (size, step, ahead)
            heappush(self.queue, (size, state))

    def go_on(self, size, state):
        """Note all sets to which one step leads."""
        sort, mask = state
        if sort == NEEDS:
            for mark in range(self.masks.custom[0]):
                for is_alive in (False, True):
                    good = self.masks.good_ends(mark, is_alive, mask)
                    self.offer(size + 1, (GOOD, good), ("member", mark, is_alive), state)
            return
        for line in self.search.lines:
            self.offer(size + self.search.size_of_line(line), (GOOD, self.masks.kept(mask, line)),
                       ("younger", line), state)
        for row in self.search.rows:
            needed = self.masks.ranks_asked(row, mask)
            self.offer(size + self.search.rows[row][0], (NEEDS, needed), ("elder", row), state)

    def least_case(self):
        """A least family with a living member that cannot be heir, and its way; or None."""
        best = None
        for state, (size, _, _) in self.told.items():
            if state[0] != NEEDS:
                continue
            for row in self.search.rows:
                many = size + self.search.rows[row][0] + 1
                for mark in range(self.masks.custom[0]):
                    is_less = best is None or many < best[0]
                    if is_less and not self.masks.is_named(mark, row, state[1]):
                        best = (many, state, row, mark)
        return None if best is None else self.family_around(best[1], best[2], best[3])

    def family_around(self, state, row, mark):
        """The family around a living member with this mark and row, and the member's way."""
        shelf = Shelf()
        number = shelf.keep(mark, True, self.kept_row(shelf, row))
        way = ()
        children = ()
        while self.told[state][1] is not None:
            _, step, ahead = self.told[state]
            if step[0] == "elder":
                children = self.kept_row(shelf, step[1]) + (number,)
                way = (len(children) - 1,) + way
            elif step[0] == "younger":
                children += (shelf.keep_family(self.search.family(step[1])),)
            else:
                number = shelf.keep(step[1], step[2], children)
            state = ahead
        return shelf.short(number), way

    def kept_row(self, shelf, row):
        """The numbers on the shelf of a least row of a set of stands."""
        return tuple([shelf.keep_family(family) for family in self.search.row_families(row)])


def is_open(custom):
    """Whether in every family each living member can be heir."""
    return closed_case(custom) is None


def closed_case(custom):
    """A least family with a living member that cannot be heir, and its way; or None."""
    return Closing(need_custom(custom)).least_case()
