"""A family whose lines and rows are swapped for told ones, one by one, until it is one told line."""

from heirlines.counts import all_ways
from heirlines.lines import MOST_CHILDREN
from heirlines.readings import behind_row


def behind_members(way):
    """A key by which members stand behind all below them, elder lines ahead."""
    return way + (MOST_CHILDREN,)


class Swaps:
    """What a family becomes by swapping, as a custom reads it, and where it is swapped.

    Members are numbered from below. The step 2 * I swaps the line of the
    member I, whose children are a told row by then, for the told line of its
    rank; the step 2 * I + 1 swaps the told row ahead of it in its parent's
    row, and the line itself, for the told row of the stand behind it.
    """

    def __init__(self, custom, shelf, top, told_lines, told_rows):
        self.shelf = shelf
        self.told_lines = told_lines
        self.told_rows = told_rows
        self.ways = sorted(list(all_ways(shelf.short(top))), key=behind_members)
        self.numbers = {way: number for number, way in enumerate(self.ways)}
        self.looks = []
        self.ranks = []
        # for each member the stands behind none of its children, the first one, and so on
        self.stands = []
        for way in self.ways:
            mark, is_alive, children = shelf.lines[shelf.path(top, way)[-1]]
            own = [self.ranks[self.numbers[way + (place,)]] for place in range(len(children))]
            stands = [behind_row(custom[3], own[:many])[0] for many in range(len(own) + 1)]
            self.looks.append((mark, is_alive, len(children)))
            self.stands.append(stands)
            self.ranks.append(custom[4][mark][1 if is_alive else 0][stands[-1]][0])

    def many_steps(self):
        """How many steps there are."""
        return 2 * len(self.ways) - 1

    def lines_behind(self, step):
        """The numbers on the shelf of all lines behind so many steps."""
        lines = []
        for number, way in enumerate(self.ways):
            if 2 * number < step:
                lines.append(self.told_lines[self.ranks[number]])
                continue
            mark, is_alive, many = self.looks[number]
            children = [self.numbers[way + (place,)] for place in range(many)]
            done = len([child for child in children if 2 * child + 1 < step])
            rest = tuple([lines[child] for child in children[done:]])
            row = self.told_rows[self.stands[number][done]]
            lines.append(self.shelf.keep(mark, is_alive, row + rest))
        return lines

    def family_behind(self, step):
        """The founder's number on the shelf behind so many steps."""
        return self.lines_behind(step)[-1]

    def way_now(self, way):
        """The way of a member as it is when it, or its row, is swapped: elder siblings are told rows by then."""
        told = ()
        for level, place in enumerate(way):
            stands = self.stands[self.numbers[way[:level]]]
            told += (len(self.told_rows[stands[place]]),)
        return told

    def surrounding(self, step):
        """Whether a step swaps a line; the founder's number of the surrounding of what is swapped; and its way."""
        lines = self.lines_behind(step)
        way = self.ways[step // 2]
        if step & 1 == 0:
            return True, lines[-1], self.way_now(way)
        parent = self.numbers[way[:-1]]
        mark, is_alive, many = self.looks[parent]
        rest = [lines[self.numbers[way[:-1] + (place,)]] for place in range(way[-1] + 1, many)]
        now = self.way_now(way[:-1])
        return False, self.shelf.put_at(lines[-1], now, self.shelf.keep(mark, is_alive, tuple(rest))), now
