"""What two customs make of one family, side by side."""

from heirlines.checks import is_between, is_truth
from heirlines.customs import same_marks
from heirlines.errors import BadName
from heirlines.lines import need_lines
from heirlines.readings import heir_in
from heirlines.relations import RELATIONS, relation_of
from heirlines.viewing import Views
from heirlines.ways import member_path


def seen_in(custom, other, family):
    """The VIEW in a family, for what is known to be right."""
    heir, far_heir = heir_in(custom, family), heir_in(other, family)
    return (relation_of(heir, far_heir), mark_of(family, heir), mark_of(family, far_heir),
            heir == (), far_heir == ())


def mark_of(family, heir):
    """The MARK of an heir, None of nobody."""
    return None if heir is None else family[member_path(family, heir)[-1]][0]


def view_in(custom, other, family):
    """The VIEW of both customs in the family."""
    same_marks(custom, other)
    need_lines(family, custom[0])
    return seen_in(custom, other, family)


def place_of_view(view):
    """What VIEWS are ordered by."""
    marks = tuple([-1 if mark is None else mark for mark in view[1:3]])
    return (RELATIONS.index(view[0]),) + marks + view[3:]


def views(custom, other):
    """All VIEWS, in their order."""
    same_marks(custom, other)
    return tuple(sorted(list(Views(custom, other).least), key=place_of_view))


def is_view(value):
    """Whether a value has the form of a VIEW."""
    if not isinstance(value, tuple) or len(value) != 5 or value[0] not in RELATIONS:
        return False
    if not all([mark is None or is_between(mark, 0, 2) for mark in value[1:3]]):
        return False
    return is_truth(value[3]) and is_truth(value[4])


def view_case(custom, other, view):
    """A least family with this VIEW, or None."""
    same_marks(custom, other)
    if not is_view(view):
        raise BadName(view)
    return Views(custom, other).family([view])
