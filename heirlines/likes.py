"""Which ranks and stands of a custom are LIKE, and the custom that has each of them once."""

from heirlines.reached import needed_stands
from heirlines.search import TableSearch


def numbered(looks):
    """A number for each thing, the same one for those that look the same."""
    numbers = {}
    return {thing: numbers.setdefault(look, len(numbers)) for thing, look in looks.items()}


def members_of(lots):
    """The tuple of the lots, each with its things ascending."""
    told = {}
    for thing in sorted(list(lots)):
        told.setdefault(lots[thing], []).append(thing)
    return tuple([tuple(lot) for lot in list(told.values())])


class Likes:
    """The reached ranks and stands of a custom in lots of those that are LIKE.

    Those lots are parted that some reading or closing tells apart, until
    nothing tells any two of one lot apart any more.
    """

    def __init__(self, custom):
        self.custom = custom
        self.search = TableSearch(custom)
        self.needed = needed_stands(custom, self.search)
        self.stands = numbered(self.needed)
        self.ranks = numbered({rank: custom[2][rank] for rank in self.search.lines})
        many = 0
        while many < len(members_of(self.stands)) + len(members_of(self.ranks)):
            many = len(members_of(self.stands)) + len(members_of(self.ranks))
            ranks = numbered({rank: self.rank_look(rank) for rank in self.ranks})
            self.stands = numbered({stand: self.stand_look(stand) for stand in self.stands})
            self.ranks = ranks

    def read_look(self, stand, rank):
        """The lot of the stand behind a child, and KEEP."""
        behind, keep = self.custom[3][stand][rank]
        return self.stands[behind], keep if self.needed[behind] else "none"

    def close_look(self, stand, mark, life):
        """The lot of the rank of a line, and PICK."""
        rank, pick = self.custom[4][mark][life][stand]
        return self.ranks[rank], pick

    def rank_look(self, rank):
        """What tells ranks apart: their lot so far, and all readings."""
        return self.ranks[rank], tuple([self.read_look(stand, rank) for stand in self.stands])

    def stand_look(self, stand):
        """What tells stands apart: their lot so far, all readings and all closings."""
        read = tuple([self.read_look(stand, rank) for rank in self.ranks])
        close = tuple([self.close_look(stand, mark, life) for mark in range(self.custom[0]) for life in (0, 1)])
        return self.stands[stand], read, close


class LeastTable:
    """The LEAST CUSTOM of a custom: its ranks and stands are lots, in the order in which they get numbers."""

    def __init__(self, likes):
        self.likes = likes
        # one rank and one stand stands for each lot
        self.first_rank = {lot: rank for rank, lot in sorted(list(likes.ranks.items()), reverse=True)}
        self.first_stand = {lot: stand for stand, lot in sorted(list(likes.stands.items()), reverse=True)}
        self.ranks = {}
        self.stands = {likes.stands[0]: 0}
        many = 0
        while many < len(self.ranks) + len(self.stands):
            many = len(self.ranks) + len(self.stands)
            self.ranks_round()
            self.stands_round()

    def ranks_round(self):
        """Number the ranks to which the numbered stands are closed."""
        for stand in self.stands:
            for mark in range(self.likes.custom[0]):
                for life in (0, 1):
                    lot, _ = self.likes.close_look(self.first_stand[stand], mark, life)
                    self.ranks.setdefault(lot, len(self.ranks))

    def stands_round(self):
        """Number the stands to which the numbered ranks are read from those that were numbered."""
        for stand in list(self.stands):
            for rank in self.ranks:
                lot, _ = self.likes.read_look(self.first_stand[stand], self.first_rank[rank])
                self.stands.setdefault(lot, len(self.stands))

    def read_cell(self, stand, rank):
        """The number of the stand behind a child, and KEEP."""
        lot, keep = self.likes.read_look(self.first_stand[stand], self.first_rank[rank])
        return self.stands[lot], keep

    def close_cell(self, stand, mark, life):
        """The number of the rank of a line, and PICK."""
        lot, pick = self.likes.close_look(self.first_stand[stand], mark, life)
        return self.ranks[lot], pick

    def as_custom(self):
        """The LEAST CUSTOM."""
        likes = self.likes
        stands = tuple([likes.needed[self.first_stand[lot]] for lot in self.stands])
        ranks = tuple([likes.custom[2][self.first_rank[lot]] for lot in self.ranks])
        read = [tuple([self.read_cell(stand, rank) for rank in self.ranks]) for stand in self.stands]
        close = []
        for mark in range(likes.custom[0]):
            close.append(tuple([tuple([self.close_cell(stand, mark, life) for stand in self.stands])
                                for life in (0, 1)]))
        return likes.custom[0], stands, ranks, tuple(read), tuple(close)
