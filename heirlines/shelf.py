"""A shelf on which lines that read alike stand once, under one number."""


class Shelf:
    """Lines are put on it and never taken away; children have lesser numbers."""

    def __init__(self):
        self.lines = []
        self.numbers = {}

    def keep(self, mark, is_alive, children):
        """The number of this line, whose children are numbers of the shelf."""
        line = (mark, is_alive, children)
        number = self.numbers.get(line)
        if number is None:
            number = len(self.lines)
            self.lines.append(line)
            self.numbers[line] = number
        return number

    def keep_family(self, family):
        """Put all lines of a family on the shelf; return the founder's number."""
        kept = []
        for mark, is_alive, children in family:
            kept.append(self.keep(mark, is_alive, tuple([kept[child] for child in children])))
        return kept[-1]

    def path(self, top, way):
        """The numbers of the lines from the founder's down the way; None if no member has it."""
        numbers = [top]
        for place in way:
            children = self.lines[numbers[-1]][2]
            if not 0 <= place < len(children):
                return None
            numbers.append(children[place])
        return numbers

    def put_at(self, top, way, number):
        """The founder's number behind putting a line in the place of the member's line."""
        path = self.path(top, way)
        for level in reversed(range(len(way))):
            mark, is_alive, children = self.lines[path[level]]
            place = way[level]
            number = self.keep(mark, is_alive, children[:place] + (number,) + children[place + 1:])
        return number

    def dead_at(self, top, way):
        """The founder's number behind the member's death."""
        mark, _, children = self.lines[self.path(top, way)[-1]]
        return self.put_at(top, way, self.keep(mark, False, children))

    def short(self, top):
        """The SHORT FORM of the family with this founder's line."""
        places = {}
        lines = []
        for number in finished_order(self.lines, top):
            mark, is_alive, children = self.lines[number]
            places[number] = len(lines)
            lines.append((mark, is_alive, tuple([places[child] for child in children])))
        return tuple(lines)


def finished_order(lines, top):
    """The numbers of the lines that the top one needs, as they are first finished."""
    order = []
    finished = {}
    waiting = [(top, False)]
    while waiting:
        number, has_children_done = waiting.pop()
        if number in finished:
            continue
        if has_children_done:
            finished[number] = True
            order.append(number)
            continue
        waiting.append((number, True))
        for child in reversed(lines[number][2]):
            if child not in finished:
                waiting.append((child, False))
    return order


def short_form(lines):
    """The SHORT FORM of a family that is known to be one."""
    shelf = Shelf()
    return shelf.short(shelf.keep_family(lines))
