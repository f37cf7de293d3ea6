"""Who can come to be heir, and by how few deeds."""

from heirlines.checks import is_between
from heirlines.choices import NewbornSearch
from heirlines.customs import need_custom
from heirlines.errors import BadNumber, NothingBack
from heirlines.futures import is_led
from heirlines.leading import Leading
from heirlines.lines import need_family
from heirlines.readings import heir_in
from heirlines.scales import Asked, Chance, newborn_row
from heirlines.twofold import Twofold
from heirlines.wishes import are_kept, is_granted, need_asked, need_chances


def newborn_costs(custom):
    """For each rank the least number of deeds for a newborn member's line, or None."""
    return newborn_row(custom, NewbornSearch(need_custom(custom)))


def line_costs(custom, family):
    """For each line of the SHORT FORM and each rank the least number of deeds in the line, or None."""
    lines = need_chances(custom, family)
    # nobody is wanted
    scales = Chance(Asked(custom, lines, ("none",), ())).shared
    return tuple([tuple([scale.get((rank, False)) for rank in range(len(custom[2]))]) for scale in scales])


def fewest(custom, family, wish, terms=()):
    """The FEWEST deeds by which the terms and the wish hold, or None."""
    lines = need_asked(custom, family, wish, terms)
    return Chance(Asked(custom, lines, wish, terms)).fewest()


def future_for(custom, family, wish, terms=()):
    """A future by the FEWEST deeds."""
    lines = need_asked(custom, family, wish, terms)
    later = Chance(Asked(custom, lines, wish, terms)).future()
    if later is None:
        raise NothingBack()
    return later


def fits(custom, family, wish, terms, later):
    """Whether later is a future in which the terms and the wish hold."""
    lines = need_asked(custom, family, wish, terms)
    need_family(later, custom[0])
    twofold = Twofold(lines, later)
    if not is_led(twofold) or not are_kept(twofold, terms):
        return False
    return is_granted(lines, wish, heir_in(custom, later))


def can_be_heir(custom, family):
    """How many members can be heir."""
    return Leading(custom, need_chances(custom, family)).how_many()


def chance_at(custom, family, number):
    """The member with this number among those that can be heir."""
    leading = Leading(custom, need_chances(custom, family))
    if not is_between(number, 0, leading.how_many() - 1):
        raise BadNumber(number)
    return leading.member(number)
