"""Lots of families that tell a custom from all others that are as small."""

from heirlines.apart import Parting, number_pairs, with_row
from heirlines.customs import need_custom, same_marks
from heirlines.errors import BadRow
from heirlines.likes import LeastTable, Likes
from heirlines.lines import is_told
from heirlines.readings import heir_in
from heirlines.search import TableSearch
from heirlines.shelf import Shelf

MOST_LOT = 6000


class Lot:
    """Families by which a custom with as few stands and ranks is found to read all families alike.

    Least lines and rows show that the other custom has as many ranks and
    stands; what each reading and closing leads to is then put into the
    surroundings that tell it from every other rank or stand.
    """

    def __init__(self, least):
        self.least = least
        self.search = TableSearch(least)
        many_stands, many_ranks = len(least[1]), len(least[2])
        self.rows = [self.search.row_families(stand) for stand in range(many_stands)]
        self.lines = [self.search.family(rank) for rank in range(many_ranks)]
        self.line_tests = {pair: Parting(least, True, pair[0], pair[1]).surrounding("unlike")
                           for pair in number_pairs(many_ranks)}
        self.row_tests = {pair: Parting(least, False, pair[0], pair[1]).surrounding("unlike")
                          for pair in number_pairs(many_stands)}
        self.takings = [Parting(least, False, stand, stand).surrounding("inside") for stand in range(many_stands)]
        # a dict keeps each family once, in the order in which they come
        self.families = {}
        for pair, surrounding in self.line_tests.items():
            self.add_line(surrounding, self.lines[pair[0]])
            self.add_line(surrounding, self.lines[pair[1]])
        for pair, surrounding in self.row_tests.items():
            self.add_row(surrounding, self.rows[pair[0]])
            self.add_row(surrounding, self.rows[pair[1]])
        for stand in range(many_stands):
            self.add_readings(stand)
            self.add_closings(stand)

    def add_line(self, surrounding, line):
        """Add the surrounding with the line put into it."""
        shelf = Shelf()
        family, way = surrounding
        top = shelf.keep_family(family)
        self.families[shelf.short(shelf.put_at(top, way, shelf.keep_family(line)))] = True

    def add_row(self, surrounding, row):
        """Add the surrounding with the row put into it."""
        shelf = Shelf()
        family, way = surrounding
        self.families[shelf.short(with_row(shelf, shelf.keep_family(family), way, row))] = True

    def add_readings(self, stand):
        """Add what shows to which stand each rank is read, and which claimant is held there."""
        for rank, line in enumerate(self.lines):
            behind, _ = self.least[3][stand][rank]
            row = self.rows[stand] + (line,)
            for pair, surrounding in self.row_tests.items():
                if behind in pair:
                    self.add_row(surrounding, row)
            if self.takings[behind] is not None:
                self.add_row(self.takings[behind], row)

    def add_closings(self, stand):
        """Add what shows to which rank each member closes, and whom it picks."""
        for mark, pair_of_rows in enumerate(self.least[4]):
            for life, cells in enumerate(pair_of_rows):
                shelf = Shelf()
                children = tuple([shelf.keep_family(family) for family in self.rows[stand]])
                line = shelf.short(shelf.keep(mark, life == 1, children))
                self.families[line] = True
                for pair, surrounding in self.line_tests.items():
                    if cells[stand][0] in pair:
                        self.add_line(surrounding, line)


def check_lot(custom):
    """A CHECK LOT of at most 6,000 families."""
    least = LeastTable(Likes(need_custom(custom))).as_custom()
    return tuple(list(Lot(least).families))


def need_lot(lot, marks):
    """Raise BadRow unless this is a tuple of at most 6,000 families of so many marks."""
    if not isinstance(lot, tuple) or len(lot) > MOST_LOT:
        raise BadRow(None)
    for place, item in enumerate(lot):
        if not is_told(item, marks):
            raise BadRow(place)


def first_unlike(custom, other, lot):
    """The number of the first family in which the customs name unlike heirs, or None."""
    same_marks(custom, other)
    need_lot(lot, custom[0])
    for place, family in enumerate(lot):
        if heir_in(custom, family) != heir_in(other, family):
            return place
    return None
