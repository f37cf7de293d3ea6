"""Fillings of rolls that show who may be heir, and where two customs differ."""

from heirlines.customs import same_marks
from heirlines.errors import TooGreat
from heirlines.lines import MOST_LINES
from heirlines.rolls import need_asked, need_roll_of
from heirlines.rollways import Both, Lone, RollWays
from heirlines.shelf import Shelf
from heirlines.ways import member_path


def filling_with(custom, roll, way):
    """A filling in which the member is the heir, and its way there; None if there is none."""
    need_asked(custom, roll, way)
    ways = RollWays(Lone(custom), roll, False)
    keys = [key for key in ways.founder_scale(way) if key[1]]
    if not keys:
        return None
    told, far_way = Filled(ways).filled_to(way, keys[0])
    return within_lines(told), far_way


def differing_filling(custom, other, roll):
    """A filling in which two customs name unlike members, or one of them nobody; None if there is none."""
    same_marks(custom, other)
    need_roll_of(roll, custom[0])
    ways = RollWays(Both(custom, other), roll, False)
    states = [state for state in ways.scales[-1] if state[2] == "unlike"]
    return within_lines(Filled(ways).filled(states[0])) if states else None


def within_lines(lines):
    """Return a filling, unless it has too many lines to be told."""
    if len(lines) > MOST_LINES:
        raise TooGreat(MOST_LINES)
    return lines


class Filled:
    """A filling that is built: each ENTRY has one line for each thing that it comes to."""

    def __init__(self, ways):
        self.ways = ways
        self.roll = ways.roll
        self.shelf = Shelf()
        # for each ENTRY what it has to come to, at first without the number of its line
        self.due = [{} for _ in self.roll]

    def put_due_first(self, number, row, led):
        """Let a row look first at what is due of its children, as less is to be built then."""
        for place, child in enumerate(self.roll[number][2]):
            if place != led:
                states = list(self.due[child]) + list(self.ways.scales[child])
                row.scales[place] = {state: 1 for state in states}

    def chosen(self, number, row, led, line):
        """How an ENTRY is filled so that its line comes to this: its mark, its life and the order of its children.

        A child on a way may be led; a member with nobody to lead to is the wanted one, if that is told by "own".
        """
        self.put_due_first(number, row, led)
        is_wanted = led == "own"
        for told, state, mark, is_alive, _ in self.ways.ends(number, row, is_wanted):
            if told == line:
                return mark, is_alive, row.order_to(state)
        return None

    def add_due(self, number, order, led):
        """Note what the children come to, but the one at the place that is led."""
        for place, line in order:
            if place != led:
                self.due[self.roll[number][2][place]].setdefault(line, None)

    def fill_due(self):
        """Build all that is due."""
        told = {}
        # children have lesser numbers
        for number in reversed(range(len(self.roll))):
            row = self.ways.row(number, None, None) if self.due[number] else None
            for line in self.due[number]:
                told[(number, line)] = self.chosen(number, row, None, line)
                self.add_due(number, told[(number, line)][2], None)
        for number in range(len(self.roll)):
            for line in list(self.due[number]):
                self.due[number][line] = self.kept(number, told[(number, line)], None, None)

    def kept(self, number, told, led, led_line):
        """The number on the shelf of an ENTRY that is filled so."""
        mark, is_alive, order = told
        children = self.roll[number][2]
        row = [led_line if place == led else self.due[children[place]][line] for place, line in order]
        return self.shelf.keep(mark, is_alive, tuple(row))

    def filled(self, line):
        """The filling in which the founder's line comes to this."""
        self.due[-1][line] = None
        self.fill_due()
        return self.shelf.short(self.due[-1][line])

    def filled_to(self, way, line):
        """The filling in which the founder's line comes to this for a wanted member, and the way of that one."""
        path = member_path(self.roll, way)
        rows = [row for row, _ in self.ways.rows_on(way)][::-1]
        steps = []
        for level, number in enumerate(path):
            led = way[level] if level < len(way) else None
            told = self.chosen(number, rows[level], "own" if led is None else led, line)
            steps.append((number, told, led))
            self.add_due(number, told[2], led)
            if led is not None:
                line = [own for place, own in told[2] if place == led][0]
        self.fill_due()
        kept = None
        far_way = ()
        for number, told, led in steps[::-1]:
            if led is not None:
                far_way = ([place for place, _ in told[2]].index(led),) + far_way
            kept = self.kept(number, told, led, kept)
        return self.shelf.short(kept), far_way
