"""What one death does to a family that a table reads, for all families."""

from heirlines.search import Search


def death_at(pick, far_pick):
    """What a death does to its own line; the PICKS are those ahead of it and behind it."""
    if pick == "self":
        return "marked"
    if pick == far_pick:
        return "same" if pick == "line" else "none"
    return "other"


def led_word(word, far_word, led, stays, who):
    """What a death does to the next claimant up.

    The words are KEEPS or PICKS ahead of the death and behind it; led is the
    word by which the claimant is the one that may have changed, as who tells,
    stays the one by which it is another one, whom the death doesn't touch.
    """
    if word == far_word == led:
        return who
    if word == far_word:
        return "same" if word == stays else "none"
    return "marked" if word == led and who == "marked" else "other"


class DeathSearch(Search):
    """Lines and rows with at most one death in them.

    A state is a triple (A, B, WHO) of the rank or stand ahead of the death and
    behind it. WHO is "whole" where the death is elsewhere; otherwise "marked"
    if the claimant is who dies, "same" if the death leaves it, "none" if there
    is none ahead of it and behind it, "other" in all other cases.
    """

    def __init__(self, table):
        self.table = table
        super().__init__((0, 0, "whole"))

    def closings(self, row):
        """Each line to which the row can be closed, also by a member that dies."""
        found = []
        for mark, (dead, living) in enumerate(self.table[4]):
            for is_alive in (False, True):
                cells = living if is_alive else dead
                found.append((self.closed(cells[row[0]], cells[row[1]], row[2]), mark, is_alive))
            if row[2] == "whole":
                cell, far_cell = living[row[0]], dead[row[0]]
                found.append(((cell[0], far_cell[0], death_at(cell[1], far_cell[1])), mark, True))
        return found

    def closed(self, cell, far_cell, who):
        """The state of a line whose own member doesn't die."""
        if who != "whole":
            who = led_word(cell[1], far_cell[1], "line", "self", who)
        return cell[0], far_cell[0], who

    def behind(self, row, line):
        """The state of a row behind a child; there is one death at most."""
        cell = self.table[3][row[0]][line[0]]
        far_cell = self.table[3][row[1]][line[1]]
        if row[2] == "whole" and line[2] == "whole":
            return cell[0], far_cell[0], "whole"
        if row[2] == "whole":
            return cell[0], far_cell[0], led_word(cell[1], far_cell[1], "new", "old", line[2])
        if line[2] == "whole":
            return cell[0], far_cell[0], led_word(cell[1], far_cell[1], "old", "new", row[2])
        return None

    def who_dies(self, line):
        """The way of the one who dies in the family that is told of a line."""
        way = []
        while True:
            children = self.row_lines(self.lines[line][1])
            dying = [place for place, state in enumerate(children) if state[2] != "whole"]
            if not dying:
                return tuple(way)
            way.append(dying[0])
            line = children[dying[0]]

    def least_change(self):
        """A least pair (FAMILY, WAY) of a death that changes the heir, who is another one; or None."""
        changed = [state for state in self.lines if state[2] == "other"]
        if not changed:
            return None
        line = min(changed, key=self.size_of_line)
        return self.family(line), self.who_dies(line)


def least_disorder(table):
    """A least pair (FAMILY, WAY) of a death that changes the heir, who is another one; or None."""
    return DeathSearch(table).least_change()
