"""How many members stand on each level, for all lines of a family."""


def is_of(line, who):
    """Whether a member with this LINE is of WHO."""
    mark, is_alive = who
    return (mark is None or line[0] == mark) and (is_alive is None or line[1] == is_alive)


def line_counts(lines, who):
    """How many members of WHO there are in each line."""
    counts = []
    for line in lines:
        own = 1 if is_of(line, who) else 0
        counts.append(own + sum([counts[child] for child in line[2]]))
    return counts


class LevelPacks:
    """For each line the numbers of members of WHO on its levels, packed into one integer.

    One integer with a slot for each level is added and shifted at once, where
    lists of numbers would be gone through level by level for each child.
    """

    def __init__(self, lines, who):
        self.lines = lines
        self.who = who
        # no slot ever holds more than all members, so none runs over into the next
        self.width = line_counts(lines, who)[-1].bit_length() + 1
        self.mask = (1 << self.width) - 1
        self.packs = []
        for line in lines:
            below = sum([self.packs[child] for child in line[2]])
            self.packs.append((below << self.width) + self.own(line))

    def own(self, line):
        """1 if a member with this line is of WHO, otherwise 0."""
        return 1 if is_of(line, self.who) else 0

    def on_level(self, pack, level):
        """The number in the slot of a level."""
        if level * self.width > pack.bit_length():
            return 0
        return (pack >> (level * self.width)) & self.mask

    def spread(self, pack):
        """The numbers in all slots up to the last one that isn't 0."""
        numbers = []
        while pack > 0:
            numbers.append(pack & self.mask)
            pack >>= self.width
        return numbers

    def find_below(self, number, level, ahead):
        """The way, from the line's own member, of the one so many levels below, behind so many others."""
        way = []
        while level > 0:
            level -= 1
            children = self.lines[number][2]
            place = 0
            many = self.on_level(self.packs[children[0]], level)
            while ahead >= many:
                ahead -= many
                place += 1
                many = self.on_level(self.packs[children[place]], level)
            way.append(place)
            number = children[place]
        return tuple(way)
