"""The least numbers of deeds for all lines of a family, by which a wish is granted."""

from heirlines.choices import Choices, NewbornSearch
from heirlines.readings import read_lines
from heirlines.shelf import Shelf
from heirlines.ways import member_path
from heirlines.wishes import is_fitting, spine_ways


class Asked:
    """What is asked of the futures of a family in SHORT FORM.

    Lines that aren't named are asked once each, as lines; the members on the
    SPINE, whose ways begin the named ones, are asked one by one.
    """

    def __init__(self, custom, lines, wish, terms):
        self.custom = custom
        self.lines = lines
        self.wish = wish
        self.terms = dict(terms)
        self.ways = spine_ways(wish, terms)
        _, self.reader = read_lines(custom, lines)

    def newborn_scale(self, costs):
        """The scale of a newborn child, from a cost for each rank."""
        is_wanted = self.wish == ("newborn",)
        return {(rank, is_wanted and self.custom[2][rank]): cost
                for rank, cost in enumerate(costs) if cost is not None}

    def line_choices(self, number, shared, newborn):
        """All choices for a line whose members aren't named."""
        mark, is_alive, children = self.lines[number]
        return Choices(self.custom, newborn, (mark, is_alive, [shared[child] for child in children], None, False))

    def way_choices(self, way, shared, spine, newborn):
        """All choices for a member of the SPINE that isn't quiet."""
        mark, is_alive, children = self.lines[member_path(self.lines, way)[-1]]
        scales = []
        for place, child in enumerate(children):
            scales.append(spine.get(way + (place,), shared[child]))
        is_wanted = self.wish[1:] == (way,)
        return Choices(self.custom, newborn, (mark, is_alive, scales, self.terms.get(way), is_wanted))

    def is_quiet(self, way):
        """Whether no deed may happen in the line of this member."""
        return self.terms.get(way) == "quiet"

    def quiet_scale(self, way):
        """The scale of a member whose line stays as it is."""
        for other, word in self.terms.items():
            if word != "quiet" and other[:len(way)] == way:
                line = self.lines[member_path(self.lines, other)[-1]]
                if line[1] != (word == "lives"):
                    return {}
        number = member_path(self.lines, way)[-1]
        claimant = self.reader.heir_of(number)
        is_wanted = claimant is not None and self.wish[1:] == (way + claimant,)
        return {(self.reader.ranks[number], is_wanted): 0}


class Chance:
    """The scales of all lines, and of the members of the SPINE, with futures of fewest deeds."""

    def __init__(self, asked):
        self.asked = asked
        self.search = NewbornSearch(asked.custom)
        self.costs = newborn_row(asked.custom, self.search)
        newborn = asked.newborn_scale(self.costs)
        self.shared_choices = []
        self.shared = []
        for number in range(len(asked.lines)):
            self.shared_choices.append(asked.line_choices(number, self.shared, newborn))
            self.shared.append(self.shared_choices[-1].scale())
        self.spine_choices = {}
        self.spine = {}
        # ways that are longer come first
        for way in asked.ways[::-1]:
            if asked.is_quiet(way):
                self.spine[way] = asked.quiet_scale(way)
            else:
                self.spine_choices[way] = asked.way_choices(way, self.shared, self.spine, newborn)
                self.spine[way] = self.spine_choices[way].scale()

    def fitting_key(self):
        """The pair of the founder's line by which the wish is granted by fewest deeds, or None."""
        founder = self.spine[()]
        keys = [key for key in founder if is_fitting(self.asked.custom, self.asked.wish, key)]
        best = None
        for key in keys:
            if best is None or founder[key] < founder[best]:
                best = key
        return best

    def fewest(self):
        """The FEWEST."""
        key = self.fitting_key()
        return None if key is None else self.spine[()][key]

    def future(self):
        """A fewest future, or None."""
        key = self.fitting_key()
        return None if key is None else Building(self, key).family()


def newborn_row(custom, search):
    """For each rank the least number of deeds for the line of a newborn member, or None."""
    return tuple([search.size_of_line(rank) if rank in search.lines else None for rank in range(len(custom[2]))])


class Building:
    """A fewest future: first what each line comes to, from the founder down, then the lines, from below."""

    def __init__(self, chance, key):
        self.chance = chance
        self.lines = chance.asked.lines
        self.shelf = Shelf()
        # lines of a SHORT FORM have the same numbers on the shelf
        self.shelf.keep_family(self.lines)
        # the pairs to which the members of the SPINE come, and those to which other lines come
        self.on_spine = {(): key}
        self.shared = [{} for _ in self.lines]
        self.choose()

    def choose(self):
        """Choose for all members by what is above them."""
        for way in self.chance.asked.ways:
            if way in self.on_spine and not self.chance.asked.is_quiet(way):
                pairs, _, _ = self.chance.spine_choices[way].choice(self.on_spine[way])
                children = self.lines[member_path(self.lines, way)[-1]][2]
                for place, child in enumerate(children):
                    if way + (place,) in self.chance.spine:
                        self.on_spine[way + (place,)] = pairs[place]
                    else:
                        self.shared[child][pairs[place]] = None
        # children have lesser numbers
        for number in reversed(range(len(self.lines))):
            for key in list(self.shared[number]):
                pairs, _, _ = self.chance.shared_choices[number].choice(key)
                for place, child in enumerate(self.lines[number][2]):
                    self.shared[child].setdefault(pairs[place], None)

    def family(self):
        """The future, in SHORT FORM."""
        for number in range(len(self.lines)):
            for key in list(self.shared[number]):
                pairs, newborn, is_alive = self.chance.shared_choices[number].choice(key)
                children = [self.shared[child][pairs[place]] for place, child in enumerate(self.lines[number][2])]
                self.shared[number][key] = self.kept(number, is_alive, children, newborn)
        kept = {}
        for way in sorted(list(self.on_spine), reverse=True):
            number = member_path(self.lines, way)[-1]
            if self.chance.asked.is_quiet(way):
                kept[way] = number
                continue
            pairs, newborn, is_alive = self.chance.spine_choices[way].choice(self.on_spine[way])
            children = []
            for place, child in enumerate(self.lines[number][2]):
                below = way + (place,)
                children.append(kept[below] if below in kept else self.shared[child][pairs[place]])
            kept[way] = self.kept(number, is_alive, children, newborn)
        return self.shelf.short(kept[()])

    def kept(self, number, is_alive, children, newborn):
        """The number on the shelf of what a line becomes, with lines of newborn children behind the others."""
        for rank in newborn:
            children.append(self.shelf.keep_family(self.chance.search.family(rank)))
        return self.shelf.keep(self.lines[number][0], is_alive, tuple(children))
