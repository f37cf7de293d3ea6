"""Papers that show how many deeds are needed at least."""

from heirlines.checks import is_whole
from heirlines.choices import START, with_newborn
from heirlines.wishes import is_fitting


def told_scale(scale, many):
    """A SCALE as it is told: for each rank the numbers with a wanted claimant and without one."""
    return tuple([(scale.get((rank, True)), scale.get((rank, False))) for rank in range(many)])


def bound_of(chance):
    """The right bound whose numbers are as great as can be."""
    many = len(chance.asked.custom[2])
    shared = tuple([told_scale(scale, many) for scale in chance.shared])
    spine = tuple([(way, told_scale(chance.spine[way], many)) for way in chance.asked.ways])
    return "bound", chance.fewest(), chance.costs, shared, spine


def is_cost(value):
    """Whether a value is a number of a bound: an integer from 0, or None."""
    return value is None or (is_whole(value) and value >= 0)


def is_costs(value, many):
    """Whether a value is a tuple of so many numbers of a bound."""
    return isinstance(value, tuple) and len(value) == many and all([is_cost(item) for item in value])


def is_scale(value, many):
    """Whether a value is a SCALE of so many ranks."""
    return isinstance(value, tuple) and len(value) == many and all([is_costs(item, 2) for item in value])


def is_spine(value, ways, many):
    """Whether a value is a SPINE with these ways."""
    if not isinstance(value, tuple) or len(value) != len(ways):
        return False
    if not all([isinstance(item, tuple) and len(item) == 2 and is_scale(item[1], many) for item in value]):
        return False
    # a truth in a way would be equal to an integer
    return all([is_way(item[0], way) for item, way in zip(value, ways)])


def is_way(value, way):
    """Whether a value is just this way."""
    return isinstance(value, tuple) and all([is_whole(place) for place in value]) and value == way


def is_bound(asked, value):
    """Whether a value has the form of a bound."""
    if not isinstance(value, tuple) or len(value) != 5 or value[0] != "bound" or not is_cost(value[1]):
        return False
    _, _, newborn, shared, spine = value
    many = len(asked.custom[2])
    if not is_costs(newborn, many):
        return False
    if not isinstance(shared, tuple) or len(shared) != len(asked.lines):
        return False
    return all([is_scale(scale, many) for scale in shared]) and is_spine(spine, asked.ways, many)


def read_scale(value):
    """A told SCALE as a dict of the numbers that aren't None."""
    scale = {}
    for rank, (wanted, other) in enumerate(value):
        if wanted is not None:
            scale[(rank, True)] = wanted
        if other is not None:
            scale[(rank, False)] = other
    return scale


def is_within(given, allowed):
    """Whether no given number is greater than that of a choice; what isn't there is greater than all numbers."""
    return all([key in given and given[key] <= cost for key, cost in allowed.items()])


class Given:
    """A bound that is looked at number by number: each one may be at most what its choices give."""

    def __init__(self, asked, paper):
        self.asked = asked
        _, self.number, self.costs, shared, spine = paper
        self.newborn = asked.newborn_scale(self.costs)
        self.shared = [read_scale(scale) for scale in shared]
        self.spine = {way: read_scale(scale) for way, scale in spine}

    def fault(self):
        """The word that tells which number is too great, or None."""
        if not self.is_newborn_right():
            return "new"
        for number, scale in enumerate(self.shared):
            if not is_within(scale, self.asked.line_choices(number, self.shared, self.newborn).scale()):
                return "shared"
        for way, scale in self.spine.items():
            if not is_within(scale, self.allowed(way)):
                return "spine"
        return None if self.is_number_right() else "number"

    def allowed(self, way):
        """What the choices for a member of the SPINE give."""
        if self.asked.is_quiet(way):
            return self.asked.quiet_scale(way)
        return self.asked.way_choices(way, self.shared, self.spine, self.newborn).scale()

    def is_newborn_right(self):
        """Whether no number for newborn members' lines is too great."""
        custom = self.asked.custom
        grown = with_newborn(custom[3], {START: 0}, self.newborn)
        for (stand, _), (cost, _, _) in grown.items():
            for pair in custom[4]:
                for life, cells in enumerate(pair):
                    given = self.costs[cells[stand][0]]
                    if given is None or given > cost + 2 - life:
                        return False
        return True

    def is_number_right(self):
        """Whether the number is no greater than any that fits the wish."""
        founder = self.spine[()]
        fitting = [cost for key, cost in founder.items() if is_fitting(self.asked.custom, self.asked.wish, key)]
        if self.number is None:
            return not fitting
        return all([self.number <= cost for cost in fitting])
