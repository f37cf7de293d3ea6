"""Sets of stands and of ranks to which lines can come in futures, each set as one integer.

The bit number K tells whether the stand, or the rank, K is in the set.
"""

from heirlines.search import TableSearch


def bits_of(mask):
    """The numbers in a set."""
    return [number for number in range(mask.bit_length()) if mask >> number & 1]


def mask_of(numbers):
    """The set of some numbers."""
    mask = 0
    for number in numbers:
        mask |= 1 << number
    return mask


class Masks:
    """What a custom makes of sets: a line comes to any rank in one set, a row to any stand in one."""

    def __init__(self, custom):
        self.custom = custom
        self.search = TableSearch(custom)
        # the line of a newborn member can become any family
        self.newborn = mask_of(list(self.search.lines))

    def behind(self, stands, ranks):
        """The stands to which a child with one of these ranks is read."""
        return mask_of([self.custom[3][stand][rank][0] for stand in bits_of(stands) for rank in bits_of(ranks)])

    def stands_grown(self, stands):
        """The stands behind any newborn children."""
        more = stands | self.behind(stands, self.newborn)
        while more != stands:
            stands = more
            more = stands | self.behind(stands, self.newborn)
        return stands

    def ranks_of(self, mark, is_alive, stands):
        """The ranks to which a member's line can come, from the stands of its children's row."""
        dead, living = self.custom[4][mark]
        if not is_alive:
            return mask_of([dead[stand][0] for stand in bits_of(stands)])
        return mask_of([cells[stand][0] for stand in bits_of(self.stands_grown(stands)) for cells in (dead, living)])

    def good_ends(self, mark, is_alive, needed):
        """The stands from which what is held can still be led on, behind the member's children, to a needed rank."""
        rows = self.custom[4][mark] if is_alive else self.custom[4][mark][:1]
        good = mask_of([stand for stand in range(len(self.custom[1]))
                        if any([cells[stand][1] == "line" and needed >> cells[stand][0] & 1 for cells in rows])])
        if not is_alive:
            return good
        more = good | self.kept(good, self.newborn)
        while more != good:
            good = more
            more = good | self.kept(good, self.newborn)
        return good

    def kept(self, good, ranks):
        """The stands from which a child with one of these ranks can leave what is held, at a good stand."""
        return mask_of([stand for stand in range(len(self.custom[1]))
                        if any([self.is_read_so(stand, rank, "old", good) for rank in bits_of(ranks)])])

    def ranks_asked(self, stands, good):
        """The ranks that a child's line needs to be held, behind one of these stands, at a good stand."""
        return mask_of([rank for rank in range(len(self.custom[2]))
                        if any([self.is_read_so(stand, rank, "new", good) for stand in bits_of(stands)])])

    def is_read_so(self, stand, rank, word, good):
        """Whether a child is read with this KEEP to a good stand."""
        behind, keep = self.custom[3][stand][rank]
        return keep == word and good >> behind & 1 == 1

    def is_named(self, mark, stands, needed):
        """Whether a living member's line can name the member itself, with a needed rank."""
        living = self.custom[4][mark][1]
        return any([living[stand][1] == "self" and needed >> living[stand][0] & 1 == 1
                    for stand in bits_of(self.stands_grown(stands))])

    def holding(self):
        """The ranks that hold a claimant: what a founder's line needs."""
        return mask_of([rank for rank, holds in enumerate(self.custom[2]) if holds])
