"""Live houses, which are led by named deeds that can be put in late, struck, taken back and tried."""

from heirlines.checks import is_between, is_whole, need_between
from heirlines.counts import all_ways
from heirlines.customs import need_custom
from heirlines.deeds import MOST_DEEDS, reigns
from heirlines.errors import BadDeed, BadName, BadNumber, BadStory, NothingBack, TooGreat
from heirlines.heirs import claims
from heirlines.lettering import is_name
from heirlines.lines import MOST_SMALL, need_family
from heirlines.moments import first_impossible, moment_behind
from heirlines.readings import heir_in
from heirlines.trees import need_tree
from heirlines.ways import need_member


def is_named_deed(value):
    """Whether a value is as long as a named deed, with its word."""
    if not isinstance(value, tuple):
        return False
    return (len(value) == 4 and value[0] == "birth") or (len(value) == 2 and value[0] == "death")


def born_names(record):
    """The names of those that a record brings."""
    return [deed[2] for deed in record if deed[0] == "birth"]


class Trial:
    """For one with statement; behind its block the house is what it was ahead of it."""

    def __init__(self, house):
        self.house = house

    def __enter__(self):
        self.record = self.house.record
        self.family = self.house.family
        self.names = self.house.names
        self.history = self.house.history
        self.place = self.house.place
        return self.house

    def __exit__(self, kind, value, trace):
        self.house.record = self.record
        self.house.family = self.family
        self.house.names = self.names
        self.house.history = self.history
        self.house.place = self.place


class House:
    """A custom, a first tree, and a record of named deeds."""

    def __init__(self, custom, family, names):
        need_custom(custom)
        need_family(family, custom[0])
        self.custom = custom
        self.first = need_tree(family, names)
        # all records that can be taken back or done again, and the place of the one that stands
        self.history = ((),)
        self.stand_at(0)

    def stand_at(self, place):
        """Let the record with this place in the history stand."""
        self.place = place
        self.record = self.history[place]
        self.family, self.names = moment_behind(self.first, self.record).tree()

    def step(self, record):
        """Put another record in the place of the one that stands."""
        self.history = self.history[:self.place + 1] + (record,)
        self.stand_at(self.place + 1)

    def need_birth(self, moment, deed):
        """Raise what keeps a birth from being done at this moment."""
        _, parent, name, mark = deed
        if not moment.is_there(parent):
            raise BadName(parent)
        if not moment.is_living(parent):
            raise BadDeed("life")
        if not is_between(mark, 0, self.custom[0] - 1):
            raise BadDeed("mark")
        if not is_name(name) or name in self.first[1] or name in born_names(self.record):
            raise BadName(name)

    def need_deed_at(self, number, deed):
        """Raise what keeps a deed from being done behind so many others."""
        if not is_named_deed(deed):
            raise BadDeed("form")
        moment = moment_behind(self.first, self.record[:number])
        if deed[0] == "birth":
            self.need_birth(moment, deed)
        elif not moment.is_there(deed[1]):
            raise BadName(deed[1])
        elif not moment.is_living(deed[1]):
            raise BadDeed("life")

    def put_deed(self, number, deed):
        """Put a deed into the record, behind so many others."""
        self.need_deed_at(number, deed)
        record = self.record[:number] + (deed,) + self.record[number:]
        wrong = first_impossible(self.first, record)
        if wrong is not None:
            # it stands further on by one than in the record as it was
            raise BadStory(wrong - 1)
        if len(record) > MOST_DEEDS:
            raise TooGreat(MOST_DEEDS)
        if len(self.first[1]) + len(born_names(record)) > MOST_SMALL:
            raise TooGreat(MOST_SMALL)
        self.step(record)

    def enter(self, deed):
        """Put a deed at the end of the record."""
        self.put_deed(len(self.record), deed)

    def late(self, number, deed):
        """Put a deed into the record as the one with this number."""
        need_between(number, 0, len(self.record))
        self.put_deed(number, deed)

    def strike(self, number):
        """Take the deed with this number out of the record."""
        need_between(number, 0, len(self.record) - 1)
        record = self.record[:number] + self.record[number + 1:]
        wrong = first_impossible(self.first, record)
        if wrong is not None:
            raise BadStory(wrong + 1)
        self.step(record)

    def undo(self, *, steps=1):
        """Take so many steps back."""
        need_steps(steps, self.place)
        self.stand_at(self.place - steps)

    def again(self, *, steps=1):
        """Do so many steps again that were taken back."""
        need_steps(steps, len(self.history) - 1 - self.place)
        self.stand_at(self.place + steps)

    def trial(self):
        """What a with statement stands over, so that its block changes nothing in the end."""
        return Trial(self)

    def copy(self):
        """A house that stands likewise and goes on by itself."""
        twin = House(self.custom, self.first[0], self.first[1])
        twin.history = self.history
        twin.stand_at(self.place)
        return twin

    def __eq__(self, other):
        return (isinstance(other, House) and self.custom == other.custom and self.first == other.first
                and self.record == other.record)

    def heir_name(self):
        """The name of the heir, or None."""
        return self.name_of(heir_in(self.custom, self.family))

    def name_of(self, way):
        """The name of a member by its way, None of None."""
        return None if way is None else self.names[all_ways(self.family).index(way)]

    def claim_names(self, many):
        """The names of the first many claimants."""
        return tuple([self.name_of(way) for way in claims(self.custom, self.family, many)])

    def way_of(self, name):
        """The way of the member with this name."""
        if name not in self.names:
            raise BadName(name)
        return all_ways(self.family)[self.names.index(name)]

    def name_at(self, way):
        """The name of the member with this way."""
        need_member(self.family, way)
        return self.name_of(way)

    def as_story(self):
        """The record as a STORY."""
        moment = moment_behind(self.first, self.record)
        return tuple([moment.as_deed(deed) for deed in self.record])

    def named_reigns(self):
        """The heirs' names behind the deeds, and for how many times in a row."""
        pairs = reigns(self.custom, self.first[0], self.as_story())
        return tuple([(self.name_of(way), many) for way, many in pairs])

    def moment(self, number):
        """The TREE behind the first so many deeds."""
        need_between(number, 0, len(self.record))
        return moment_behind(self.first, self.record[:number]).tree()


def need_steps(steps, most):
    """Raise unless so many steps can be gone."""
    if not is_whole(steps) or steps < 1:
        raise BadNumber(steps)
    if steps > most:
        raise NothingBack()


def under(manager, deed):
    """What deed makes of the thing that a with statement over the manager gives."""
    with manager as one:
        return deed(one)
