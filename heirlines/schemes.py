"""Schemes, which tell whom of two heirs to name by what they are to each other."""

from heirlines.customs import same_marks
from heirlines.errors import BadSentence
from heirlines.lines import need_family
from heirlines.readings import heir_in
from heirlines.relations import RELATIONS, relation_of

ANY_PICK = ("first", "second", "none")
# for the RELATIONS in which not both have an heir of their own; any pick can stand for the others
FEW_PICKS = (("none",), ("first", "none"), ("second", "none"), ("first", "none"))


def need_scheme(scheme):
    """Return the SCHEME itself, or raise BadSentence."""
    if not isinstance(scheme, tuple) or len(scheme) != len(RELATIONS):
        raise BadSentence(None)
    for number, pick in enumerate(scheme):
        if pick not in (FEW_PICKS[number] if number < len(FEW_PICKS) else ANY_PICK):
            raise BadSentence(number)
    return scheme


def pick_for(scheme, relation):
    """The PICK for a RELATION."""
    return scheme[RELATIONS.index(relation)]


def need_two(scheme, custom, other):
    """Raise unless this is a SCHEME and two customs of as many marks."""
    need_scheme(scheme)
    same_marks(custom, other)


def picked_heir(scheme, custom, other, family):
    """The HEIR BY THE SCHEME, in a family of any number of members that is known to be one."""
    heir = heir_in(custom, family)
    far_heir = heir_in(other, family)
    pick = pick_for(scheme, relation_of(heir, far_heir))
    if pick == "none":
        return None
    return heir if pick == "first" else far_heir


def heir_by_scheme(scheme, custom, other, family):
    """The HEIR BY THE SCHEME, a way or None."""
    need_two(scheme, custom, other)
    need_family(family, custom[0])
    return picked_heir(scheme, custom, other, family)
