"""What one death or one birth can do to the heir, for all families."""

from heirlines.checks import is_between
from heirlines.climbs import Climb
from heirlines.customs import need_custom
from heirlines.errors import BadDeed, BadName, BadWay
from heirlines.lines import need_lines
from heirlines.readings import Reader
from heirlines.relations import close_relation, read_relation, relation_of
from heirlines.shelf import Shelf
from heirlines.ways import need_member

LOOKS = ("none", "first", "second", "same", "above", "below", "elder", "younger", "newborn")


def need_change(custom, change):
    """Raise BadDeed unless this is a CHANGE of the custom."""
    if not isinstance(change, tuple) or len(change) not in (1, 2):
        raise BadDeed("form")
    if len(change) == 1 and change[0] not in ("heir", "another"):
        raise BadDeed("form")
    if len(change) == 2 and (change[0] not in ("birth", "stillbirth") or not is_between(change[1], 0, custom[0] - 1)):
        raise BadDeed("form")


def look_behind(custom, change, family, way):
    """The LOOK of this INSTANCE."""
    need_custom(custom)
    need_change(custom, change)
    need_lines(family, custom[0])
    path = need_member(family, way)
    mark, is_alive, _ = family[path[-1]]
    shelf = Shelf()
    reader = Reader(custom, shelf)
    top = shelf.keep_family(family)
    heir = reader.heir_of(top)
    if len(change) == 1:
        if not is_alive or (heir == way) != (change[0] == "heir"):
            raise BadWay(way)
        return relation_of(heir, reader.heir_of(shelf.dead_at(top, way)))
    child = shelf.keep(change[1], change[0] == "birth", ())
    children = shelf.lines[shelf.path(top, way)[-1]][2]
    far_heir = reader.heir_of(shelf.put_at(top, way, shelf.keep(mark, is_alive, children + (child,))))
    if far_heir == way + (len(children),):
        return "newborn"
    return relation_of(heir, far_heir)


class Changing(Climb):
    """What comes of a CHANGE, from the member to which it happens up to the founder.

    WHO is a pair: the RELATION of the claimants ahead of the CHANGE and behind
    it, and whether the first of them is who dies, or the second one the newborn.
    """

    def __init__(self, table, change):
        self.change = change
        self.is_birth = len(change) == 2
        super().__init__(table)

    def begin(self):
        """Begin with each row of the member's children."""
        for stand in list(self.search.rows):
            held = "same" if self.table[1][stand] else "none"
            for mark, (dead, living) in enumerate(self.table[4]):
                if self.is_birth:
                    self.offer_birth(stand, held, mark, False)
                    self.offer_birth(stand, held, mark, True)
                else:
                    self.offer_member(stand, mark, True, living[stand], dead[stand],
                                      (close_relation(living[stand][1], dead[stand][1], held),
                                       living[stand][1] == "self"))

    def offer_birth(self, stand, held, mark, is_alive):
        """Note what a birth to such a member makes of its line."""
        newborn, _ = self.table[4][self.change[1]][1 if self.change[0] == "birth" else 0][0]
        behind, keep = self.table[3][stand][newborn]
        who = (read_relation("none" if held == "none" else "old", keep, held, "none"), keep == "new")
        cells = self.table[4][mark][1 if is_alive else 0]
        self.offer_member(stand, mark, is_alive, cells[stand], cells[behind],
                          self.closed(cells[stand][1], cells[behind][1], who))

    def offer_member(self, stand, mark, is_alive, cell, far_cell, who):
        """Note the line of the member to which the CHANGE happens."""
        size = self.search.rows[stand][0] + 1
        self.offer_line(size, (cell[0], far_cell[0], who), ("member", mark, is_alive, stand), None)

    def told_word(self, word, far_word):
        """The word by which the one who dies, or the newborn, is led on or not."""
        return far_word if self.is_birth else word

    def entered(self, keep, far_keep, who):
        """WHO behind reading the line as a child behind a row."""
        return (read_relation(keep, far_keep, "same", who[0]),
                who[1] and self.told_word(keep, far_keep) == "new")

    def passed(self, keep, far_keep, who):
        """WHO behind reading a further child."""
        return (read_relation(keep, far_keep, who[0], "same"),
                who[1] and self.told_word(keep, far_keep) == "old")

    def closed(self, pick, far_pick, who):
        """WHO behind closing the row."""
        return close_relation(pick, far_pick, who[0]), who[1] and self.told_word(pick, far_pick) == "line"

    def look(self, line):
        """The LOOK of a family with this founder's line, or None if it is no INSTANCE."""
        relation, is_told_one = line[2]
        if self.is_birth:
            return "newborn" if is_told_one else relation
        return relation if is_told_one == (self.change[0] == "heir") else None


def outcomes(custom, change):
    """The OUTCOMES, in their order."""
    need_custom(custom)
    need_change(custom, change)
    changing = Changing(custom, change)
    shown = [changing.look(line) for line in changing.lines]
    return tuple([word for word in LOOKS if word in shown])


def outcome_case(custom, change, word):
    """A least INSTANCE with this LOOK, or None."""
    need_custom(custom)
    need_change(custom, change)
    if word not in LOOKS:
        raise BadName(word)
    return case_of(custom, change, (word,))


def case_of(custom, change, words):
    """A least INSTANCE with one of these LOOKS, or None."""
    changing = Changing(custom, change)
    line = changing.least_line([state for state in changing.lines if changing.look(state) in words])
    return None if line is None else changing.family(line)
