"""Which members of a family can be heir in a future."""

from heirlines.masks import Masks


class Leading:
    """Members that can be heir, line by line.

    A line is asked with the set of ranks that it needs so that its claimant is
    led on to the founder in some future; there are few such sets.
    """

    def __init__(self, custom, lines):
        self.masks = Masks(custom)
        self.lines = lines
        # for each line the ranks to which it can come, and the stands ahead of each child and behind the last one
        self.ranks = []
        self.stands = []
        for mark, is_alive, children in lines:
            stands = [1]
            for child in children:
                stands.append(self.masks.behind(stands[-1], self.ranks[child]))
            self.stands.append(stands)
            self.ranks.append(self.masks.ranks_of(mark, is_alive, stands[-1]))
        self.top = (len(lines) - 1, self.masks.holding())
        # each line and needed set with the sets that the children's lines need
        self.below = {}
        waiting = [self.top]
        while waiting:
            asked = waiting.pop()
            if asked not in self.below:
                self.below[asked] = self.asked_below(asked)
                waiting += self.below[asked]
        self.counts = {}
        # children have lesser numbers
        for asked in sorted(list(self.below)):
            self.counts[asked] = self.own(asked) + sum([self.counts[below] for below in self.below[asked]])

    def asked_below(self, asked):
        """Each child's line with the set of ranks that it needs."""
        number, needed = asked
        mark, is_alive, children = self.lines[number]
        good = self.masks.good_ends(mark, is_alive, needed)
        below = []
        for place in reversed(range(len(children))):
            child = children[place]
            below.append((child, self.masks.ranks_asked(self.stands[number][place], good)))
            good = self.masks.kept(good, self.ranks[child])
        return below[::-1]

    def own(self, asked):
        """1 if the line's own member can be heir, otherwise 0."""
        number, needed = asked
        mark, is_alive, _ = self.lines[number]
        return 1 if is_alive and self.masks.is_named(mark, self.stands[number][-1], needed) else 0

    def how_many(self):
        """How many members can be heir."""
        return self.counts[self.top]

    def member(self, number):
        """The way of the one with this number, by ascending ways."""
        asked = self.top
        way = []
        while number >= self.own(asked):
            number -= self.own(asked)
            place = 0
            while number >= self.counts[self.below[asked][place]]:
                number -= self.counts[self.below[asked][place]]
                place += 1
            way.append(place)
            asked = self.below[asked][place]
        return tuple(way)
