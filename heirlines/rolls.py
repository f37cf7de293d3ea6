"""Rolls: families with gaps, and who may be heir in them."""

from itertools import permutations

from heirlines.checks import is_ascending, is_number_row, is_truth
from heirlines.counts import all_ways
from heirlines.customs import need_custom, same_marks
from heirlines.errors import BadPaper, BadRoll
from heirlines.lines import MOST_CHILDREN, MOST_LINES, MOST_MEMBERS, is_told, line_sizes, need_lines, need_small
from heirlines.readings import heir_in
from heirlines.rollways import LIVES, Both, Lone, RollWays
from heirlines.shelf import Shelf
from heirlines.ways import member_path, need_member

MOST_MARKS = 3
MOST_IN_ANY_ORDER = 5


def is_entry(value, place):
    """Whether a value can stand as the ENTRY with this number."""
    if not isinstance(value, tuple) or len(value) != 4:
        return False
    marks, life, children, is_ordered = value
    if not is_number_row(marks, MOST_MARKS, MOST_MARKS - 1) or len(marks) == 0 or not is_ascending(marks):
        return False
    if not isinstance(life, str) or life not in LIVES or not is_truth(is_ordered):
        return False
    return is_number_row(children, MOST_CHILDREN if is_ordered else MOST_IN_ANY_ORDER, place - 1)


def need_roll(roll):
    """Return the ROLL itself, or raise BadRoll."""
    if not isinstance(roll, tuple) or not 1 <= len(roll) <= MOST_LINES:
        raise BadRoll(None)
    for place, item in enumerate(roll):
        if not is_entry(item, place):
            raise BadRoll(place)
    if line_sizes(roll)[-1] > MOST_MEMBERS:
        raise BadRoll(None)
    return roll


def need_roll_of(roll, marks):
    """Raise BadRoll unless this is a ROLL of so many marks."""
    need_roll(roll)
    for place, entry in enumerate(roll):
        if entry[0][-1] >= marks:
            raise BadRoll(place)


def need_read_roll(custom, roll):
    """Raise unless this is a custom and a ROLL of its marks."""
    need_custom(custom)
    need_roll_of(roll, custom[0])


def need_asked(custom, roll, way):
    """Raise unless this is a member of a ROLL of the custom's marks."""
    need_read_roll(custom, roll)
    need_member(roll, way)


def is_member(roll, way):
    """Whether a value is the WAY of a member."""
    return member_path(need_roll(roll), way) is not None


class Matching:
    """Which ENTRIES can be filled so that they read as which lines of a shelf."""

    def __init__(self, roll, lines):
        self.roll = roll
        self.lines = lines
        self.found = {}

    def looks_right(self, number, line):
        """Whether the member of a line can be that of an ENTRY, whatever their children are."""
        marks, life, children, _ = self.roll[number]
        mark, is_alive, kept = self.lines[line]
        return mark in marks and is_alive in LIVES[life] and len(children) == len(kept)

    def pairs_below(self, number, line):
        """The pairs of children that have to be known for this pair."""
        if not self.looks_right(number, line):
            return []
        children, is_ordered = self.roll[number][2:]
        if is_ordered:
            return list(zip(children, self.lines[line][2]))
        return [(child, kept) for child in children for kept in self.lines[line][2]]

    def learn(self, top):
        """Find out about a pair, and about all below it."""
        met = {top: True}
        waiting = [top]
        while waiting:
            number, line = waiting.pop()
            for pair in self.pairs_below(number, line):
                if pair not in met and pair not in self.found:
                    met[pair] = True
                    waiting.append(pair)
        # children have lesser numbers
        for pair in sorted(list(met)):
            number, line = pair
            self.found[pair] = self.looks_right(number, line) and self.has_order(number, line, None)

    def has_order(self, number, line, led):
        """Whether the children can stand in an order that fits, where perhaps one place has to come to another one."""
        children, is_ordered = self.roll[number][2:]
        kept = self.lines[line][2]
        places = list(range(len(children)))
        if is_ordered:
            return self.is_order(children, kept, places, led)
        return any([self.is_order(children, kept, list(order), led) for order in permutations(places)])

    def is_order(self, children, kept, order, led):
        """Whether each child fits where this order puts it; the one that is led is known to."""
        if led is not None and order[led[0]] != led[1]:
            return False
        return all([self.found[(children[place], kept[at])] for place, at in enumerate(order)
                    if led is None or place != led[0]])

    def fits(self, number, line):
        """Whether an ENTRY can be filled so that it reads as a line."""
        self.learn((number, line))
        return self.found[(number, line)]

    def leads(self, path, way, far_path, far_way):
        """Whether by some way of filling the member on a path of ENTRIES is the one on a path of lines."""
        if len(way) != len(far_way) or not self.fits(path[-1], far_path[-1]):
            return False
        for level in range(len(way)):
            if not self.looks_right(path[level], far_path[level]):
                return False
            for pair in self.pairs_below(path[level], far_path[level]):
                self.learn(pair)
            if not self.has_order(path[level], far_path[level], (way[level], far_way[level])):
                return False
        return True


def is_filling(roll, family):
    """Whether the family is a filling."""
    need_roll(roll)
    need_lines(family, 3)
    shelf = Shelf()
    top = shelf.keep_family(family)
    return Matching(roll, shelf.lines).fits(len(roll) - 1, top)


def may_be_heir(custom, roll, way):
    """Whether the member is the heir of some filling."""
    need_asked(custom, roll, way)
    return is_possible(RollWays(Lone(custom), roll, False), way)


def is_possible(ways, way):
    """Whether the member is the heir of some filling."""
    return any([key[1] for key in ways.founder_scale(way)])


def surely_is_heir(custom, roll, way):
    """Whether the member is the heir by every way of filling."""
    need_asked(custom, roll, way)
    return is_sure(custom, roll, way)


def is_sure(custom, roll, way):
    """Whether the member is the heir by every way of filling, for what is known to be right."""
    return all([key[1] for key in RollWays(Lone(custom), roll, False).founder_scale(way)])


def may_be_none(custom, roll):
    """Whether some filling has no heir."""
    need_read_roll(custom, roll)
    return any([not custom[2][key[0]] for key in RollWays(Lone(custom), roll, False).scales[-1]])


def sure_heir(custom, roll):
    """The member who surely is heir, or None."""
    need_read_roll(custom, roll)
    # whoever is heir in all fillings is so in the plainest one
    way = heir_in(custom, [(marks[0], LIVES[life][0], children) for marks, life, children, _ in roll])
    return way if way is not None and is_sure(custom, roll, way) else None


def possible_heirs(custom, roll):
    """All members who may be heir, ascending."""
    need_read_roll(custom, roll)
    need_small(roll)
    ways = RollWays(Lone(custom), roll, False)
    return tuple([way for way in all_ways(roll) if is_possible(ways, way)])


def many_fillings(roll):
    """How many ways of filling there are."""
    need_small(need_roll(roll))
    many = []
    for marks, life, children, is_ordered in roll:
        own = len(marks) * len(LIVES[life])
        for place, child in enumerate(children):
            own *= many[child] * (1 if is_ordered else place + 1)
        many.append(own)
    return many[-1]


def many_with(custom, roll, way):
    """By how many ways of filling the member is the heir; for None, by how many there is none."""
    need_read_roll(custom, roll)
    if way is not None:
        need_member(roll, way)
    need_small(roll)
    ways = RollWays(Lone(custom), roll, True)
    if way is None:
        return sum([many for key, many in ways.scales[-1].items() if not custom[2][key[0]]])
    return sum([many for key, many in ways.founder_scale(way).items() if key[1]])


def surely_agree(custom, other, roll):
    """Whether both name the same member, or both nobody, in every filling."""
    same_marks(custom, other)
    need_roll_of(roll, custom[0])
    return all([state[2] != "unlike" for state in RollWays(Both(custom, other), roll, False).scales[-1]])


def filling_holds(custom, roll, way, paper):
    """Whether a pair tells a filling, and the way that the member has in it, by which it is the heir."""
    need_asked(custom, roll, way)
    if not isinstance(paper, tuple) or len(paper) != 2 or not is_told(paper[0], custom[0]):
        raise BadPaper("form")
    shelf = Shelf()
    top = shelf.keep_family(paper[0])
    if member_path(paper[0], paper[1]) is None:
        raise BadPaper("form")
    path, far_path = member_path(roll, way), shelf.path(top, paper[1])
    is_led = Matching(roll, shelf.lines).leads(path, way, far_path, paper[1])
    return is_led and heir_in(custom, paper[0]) == paper[1]
