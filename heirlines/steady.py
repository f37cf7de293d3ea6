"""Whether deaths leave the heir as it is, for all families."""

from heirlines.checks import is_whole
from heirlines.customs import need_custom
from heirlines.deaths import DeathSearch, death_at, led_word
from heirlines.errors import BadPaper
from heirlines.lines import is_told
from heirlines.readings import Reader
from heirlines.search import TableSearch
from heirlines.shelf import Shelf
from heirlines.ways import member_path

WHOS = ("none", "same", "marked", "other")


def is_steady(custom):
    """Whether no death of another one than the heir ever changes the heir."""
    need_custom(custom)
    return all([state[2] != "other" for state in DeathSearch(custom).lines])


def steady_paper(custom):
    """A DEATH TABLE, or a death that changes the heir."""
    search = DeathSearch(need_custom(custom))
    change = search.least_change()
    if change is not None:
        return "unsteady", change[0], change[1]
    lines = sorted([state for state in search.lines if state[2] != "whole"])
    stands = sorted([state for state in search.rows if state[2] != "whole"])
    return "steady", tuple(lines), tuple(stands)


def is_triples(value, reached):
    """Whether a value is a tuple of triples of two reached numbers and WHO, no triple twice."""
    if not isinstance(value, tuple):
        return False
    for item in value:
        if not isinstance(item, tuple) or len(item) != 3 or item[2] not in WHOS:
            return False
        if not all([is_whole(number) and number in reached for number in item[:2]]):
            return False
    return len({item: True for item in value}) == len(value)


class DeathTable:
    """A DEATH TABLE that is looked at rule by rule."""

    def __init__(self, custom, search, lines, stands):
        self.custom = custom
        self.search = search
        self.lines = {triple: True for triple in lines}
        self.stands = {triple: True for triple in stands}

    def is_right(self):
        """Whether all five rules hold."""
        if any([triple[2] == "other" for triple in self.lines]):
            return False
        return self.has_deaths() and self.has_rows() and self.has_further_rows() and self.has_lines()

    def has_deaths(self):
        """Rule (a): what a death makes of the member's own line."""
        for stand in self.search.rows:
            for dead, living in self.custom[4]:
                rank, pick = living[stand]
                far_rank, far_pick = dead[stand]
                if (rank, far_rank, death_at(pick, far_pick)) not in self.lines:
                    return False
        return True

    def has_rows(self):
        """Rule (b): what a death in a child's line makes of the row behind it."""
        return all([self.led(self.custom[3][stand][triple[0]], self.custom[3][stand][triple[1]], "new", "old",
                             triple[2]) in self.stands
                    for triple in self.lines for stand in self.search.rows])

    def has_further_rows(self):
        """Rule (c): what a further child makes of a row."""
        return all([self.led(self.custom[3][triple[0]][rank], self.custom[3][triple[1]][rank], "old", "new",
                             triple[2]) in self.stands
                    for triple in self.stands for rank in self.search.lines])

    def has_lines(self):
        """Rule (d): what a row makes of the line above it."""
        return all([self.led(cells[triple[0]], cells[triple[1]], "line", "self", triple[2]) in self.lines
                    for triple in self.stands for pair in self.custom[4] for cells in pair])

    def led(self, cell, far_cell, leads, stays, who):
        """The triple of two cells, to which WHO is led."""
        return cell[0], far_cell[0], led_word(cell[1], far_cell[1], leads, stays, who)


def is_unsteady(custom, family, way):
    """Whether a living member that isn't the heir changes the heir by its death."""
    if not is_told(family, custom[0]):
        return False
    path = member_path(family, way)
    if path is None or not family[path[-1]][1]:
        return False
    shelf = Shelf()
    reader = Reader(custom, shelf)
    top = shelf.keep_family(family)
    heir = reader.heir_of(top)
    return heir != way and heir != reader.heir_of(shelf.dead_at(top, way))


def check_steady(custom, paper):
    """The first word of a right paper."""
    need_custom(custom)
    if not isinstance(paper, tuple) or len(paper) != 3 or paper[0] not in ("steady", "unsteady"):
        raise BadPaper("form")
    word, first, second = paper
    if word == "unsteady":
        if not is_unsteady(custom, first, second):
            raise BadPaper("unsteady")
        return word
    search = TableSearch(custom)
    if not is_triples(first, search.lines) or not is_triples(second, search.rows):
        raise BadPaper("steady")
    if not DeathTable(custom, search, first, second).is_right():
        raise BadPaper("steady")
    return word
