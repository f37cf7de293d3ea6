"""What a deed or a mark of one member changes for the others, as two deals."""

from heirlines.checks import is_between
from heirlines.deals import need_deal
from heirlines.errors import BadDeal, BadDeed, BadNumber

WORDS = ("death", "birth", "mark", "left")
MOST_MARKS = 2
MOST_RANKS = 3
MOST_STANDS = 2
LOST = "lost"
# how many of a line's members are concerned; LATE is one just behind which nobody may be read any more
NONE = 0
ONE = 1
LATE = 2


def bent(deal, word, old_mark, new_mark=None):
    """The deals by what is ahead of the deed, and by what is behind it."""
    need_deal(deal)
    if deal[0] > MOST_MARKS:
        raise BadDeal("marks")
    if len(deal[1]) > MOST_RANKS:
        raise BadDeal("ranks")
    if len(deal[2]) > MOST_STANDS:
        raise BadDeal("stands")
    if word not in WORDS:
        raise BadDeed("form")
    if not is_between(old_mark, 0, deal[0] - 1):
        raise BadNumber(old_mark)
    if not is_new_mark(deal, word, old_mark, new_mark):
        raise BadNumber(new_mark)
    return (Bending(deal, word, old_mark, new_mark, False).bent_deal(),
            Bending(deal, word, old_mark, new_mark, True).bent_deal())


def is_new_mark(deal, word, old_mark, value):
    """Whether a value can be the new mark."""
    if word != "mark":
        return value is None
    return is_between(value, 0, deal[0] - 1) and value != old_mark


class Bending:
    """A deal that knows of each line whether none of its members, one, or more are concerned.

    The first stand is that of a row without children. The others are pairs
    of a stand of the deal and NONE, ONE or LATE; the last one is bad. Ranks
    are pairs of a rank and NONE or ONE; then comes the one of a member that
    is or was not there; the last one is bad. Nobody has anything in a bad line.
    """

    def __init__(self, deal, word, old_mark, new_mark, is_behind):
        self.deal = deal
        self.word = word
        self.old_mark = old_mark
        self.new_mark = new_mark
        self.is_behind = is_behind
        sides = (NONE, ONE, LATE) if word == "birth" else (NONE, ONE)
        self.stands = [None] + [(stand, side) for stand in range(len(deal[2])) for side in sides] + ["bad"]
        self.ranks = [(rank, side) for rank in range(len(deal[1])) for side in (NONE, ONE)]
        if word in ("birth", "left"):
            self.ranks.append("apart")
        self.ranks.append("bad")

    def bent_deal(self):
        """The deal."""
        weights = tuple([self.weight(rank) for rank in self.ranks])
        read = []
        for stand in self.stands:
            read.append(tuple([self.stands.index(self.behind(stand, rank)) for rank in self.ranks]))
        close = []
        for mark in range(self.deal[0] + 1):
            close.append(tuple([tuple([self.cell(stand, mark, life) for stand in self.stands]) for life in (0, 1)]))
        return self.deal[0] + 1, weights, tuple(read), tuple(close)

    def apart_rank(self):
        """The rank by the deal of a member that is apart; None if it is not there."""
        if self.is_behind != (self.word == "birth"):
            return None
        return self.deal[3][self.old_mark][1 if self.word == "birth" else 0][0][0]

    def weight(self, rank):
        """The weight of a rank."""
        if rank == "bad":
            return 0
        own = self.apart_rank() if rank == "apart" else rank[0]
        return 0 if own is None else self.deal[1][own]

    def behind(self, stand, rank):
        """The stand behind a child with a rank."""
        own, side = (0, NONE) if stand is None else stand if stand != "bad" else (0, LATE)
        if rank == "bad" or side == LATE or (side == ONE and (rank == "apart" or rank[1] == ONE)):
            return "bad"
        if rank == "apart":
            rank = (self.apart_rank(), LATE if self.word == "birth" else ONE)
        if rank[0] is None:
            return own, rank[1]
        return self.deal[2][own][rank[0]], max(side, rank[1])

    def cell(self, stand, mark, life):
        """The number of the rank of a line, and TAKE."""
        if mark == self.deal[0]:
            rank, take = self.concerned(stand, life)
        elif stand == "bad" or (stand is not None and stand[1] == LATE and life == 0):
            rank, take = "bad", LOST
        else:
            own, side = (0, NONE) if stand is None else stand
            told, take = self.deal[3][mark][life][own]
            rank = (told, min(side, ONE))
        return self.ranks.index(rank), take

    def concerned(self, stand, life):
        """The rank and TAKE of the line of a concerned member."""
        if self.word in ("birth", "left"):
            is_right = stand is None and life == (1 if self.word == "birth" else 0)
            return ("apart" if is_right else "bad"), LOST
        own, side = (0, NONE) if stand is None else stand if stand != "bad" else (0, LATE)
        if side != NONE or (self.word == "death" and life == 0):
            return "bad", LOST
        if self.word == "mark":
            rank, take = self.deal[3][self.new_mark if self.is_behind else self.old_mark][life][own]
            return (rank, ONE), take
        rank, take = self.deal[3][self.old_mark][0 if self.is_behind else 1][own]
        return (rank, ONE), LOST if take == "self" else take
