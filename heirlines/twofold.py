"""Two families at once, line by line: the pairs of lines that stand at one way in both."""

from heirlines.shelf import Shelf


class Twofold:
    """Two families on one shelf, with all pairs of lines that stand at one way in both.

    Lines that read alike stand once on the shelf, so of two equal ones nothing
    below needs to be looked at. Children have lesser numbers, so in ascending
    order the pairs below come first.
    """

    def __init__(self, family, other):
        self.shelf = Shelf()
        top = self.shelf.keep_family(family)
        self.top = (top, self.shelf.keep_family(other))
        met = {self.top: True}
        waiting = [self.top]
        while waiting:
            below = self.pairs_below(waiting.pop())
            for pair in below:
                if pair not in met:
                    met[pair] = True
                    waiting.append(pair)
        self.pairs = sorted(list(met))

    def lines_of(self, pair):
        """Both lines of a pair."""
        return self.shelf.lines[pair[0]], self.shelf.lines[pair[1]]

    def pairs_below(self, pair):
        """The pairs of lines of the children that both members have; none below equal lines."""
        if pair[0] == pair[1]:
            return []
        line, far_line = self.lines_of(pair)
        return list(zip(line[2], far_line[2]))

    def new_children(self, pair):
        """The lines of the children that just the second member has."""
        line, far_line = self.lines_of(pair)
        return far_line[2][len(line[2]):]

    def dies(self, pair):
        """Whether the first member lives and the second one is dead."""
        line, far_line = self.lines_of(pair)
        return line[1] and not far_line[1]
