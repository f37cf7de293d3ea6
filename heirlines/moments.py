"""Families whose members have names, led on by named deeds."""

from heirlines.counts import all_ways
from heirlines.shelf import Shelf
from heirlines.ways import member_path


class Moment:
    """All members by their names: marks, lives, children, and the ways, which never change."""

    def __init__(self, tree):
        lines, names = tree
        self.looks = {}
        self.lives = {}
        self.below = {}
        self.paths = {}
        named = {}
        for way, name in zip(all_ways(lines), names):
            mark, is_alive, _ = lines[member_path(lines, way)[-1]]
            named[way] = name
            self.add_member(name, way, mark, is_alive)
            if way != ():
                self.below[named[way[:-1]]].append(name)

    def add_member(self, name, way, mark, is_alive):
        """Note a member without children."""
        self.looks[name] = mark
        self.lives[name] = is_alive
        self.below[name] = []
        self.paths[name] = way

    def is_there(self, name):
        """Whether a value is the name of a member."""
        return isinstance(name, str) and name in self.looks

    def is_living(self, name):
        """Whether a value is the name of a living member."""
        return self.is_there(name) and self.lives[name]

    def lead_on(self, deed):
        """Do a deed that is possible."""
        if deed[0] == "death":
            self.lives[deed[1]] = False
        else:
            _, parent, name, mark = deed
            self.add_member(name, self.paths[parent] + (len(self.below[parent]),), mark, True)
            self.below[parent].append(name)

    def as_deed(self, deed):
        """A named deed that is possible, told by ways."""
        if deed[0] == "death":
            return "death", self.paths[deed[1]]
        return "birth", self.paths[deed[1]], deed[3]

    def way_from(self, name):
        """The way of a member."""
        return self.paths[name]

    def in_order(self):
        """The names of all members in the ascending order of their ways."""
        return sorted(list(self.paths), key=self.way_from)

    def tree(self):
        """The TREE: the family in SHORT FORM, and the names."""
        shelf = Shelf()
        names = self.in_order()
        numbers = {}
        for name in reversed(names):
            children = tuple([numbers[child] for child in self.below[name]])
            numbers[name] = shelf.keep(self.looks[name], self.lives[name], children)
        return shelf.short(numbers[names[0]]), tuple(names)


def first_impossible(tree, record):
    """The number of the first named deed that isn't possible behind those ahead of it, None if all are."""
    moment = Moment(tree)
    for number, deed in enumerate(record):
        if not moment.is_living(deed[1]):
            return number
        moment.lead_on(deed)
    return None


def moment_behind(tree, record):
    """What comes of a tree by a record that is possible."""
    moment = Moment(tree)
    for deed in record:
        moment.lead_on(deed)
    return moment
