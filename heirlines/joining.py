"""Customs that join two others by a scheme, and papers on it."""

from heirlines.checks import is_between
from heirlines.customs import MOST_STATES, is_custom, need_custom
from heirlines.errors import BadMarks, BadPaper, TooGreat
from heirlines.joints import Joint
from heirlines.joinsearch import JoinSearch
from heirlines.least import least_custom
from heirlines.likes import LeastTable, Likes
from heirlines.lines import is_told
from heirlines.schemes import need_two, picked_heir
from heirlines.shelf import Shelf
from heirlines.ways import member_path


def joint_of(scheme, custom, other):
    """What joins two customs; their least ones name the same heirs and come to less."""
    need_two(scheme, custom, other)
    return Joint(scheme, least_custom(custom), least_custom(other))


def search_of(scheme, custom, other, third):
    """What three customs come to until the third one doesn't join the others."""
    return JoinSearch(scheme, least_custom(custom), least_custom(other), least_custom(third))


def joined(scheme, custom, other):
    """The joined CUSTOM, or None if there is a WITNESS that none joins the two."""
    joint = joint_of(scheme, custom, other)
    return joined_custom(joint) if joint.witness() is None else None


def joined_custom(joint):
    """The joined CUSTOM of two without a WITNESS."""
    least = LeastTable(Likes(joint.as_table())).as_custom()
    if max(len(least[1]), len(least[2])) > MOST_STATES:
        raise TooGreat(MOST_STATES)
    return least


def joining_paper(scheme, custom, other):
    """A JOINING PAPER."""
    joint = joint_of(scheme, custom, other)
    witness = joint.witness()
    return ("custom", joined_custom(joint)) if witness is None else witness


def is_place(family, way, marks):
    """Whether these are a FAMILY of so many marks, of any number of members, and a member of it."""
    return is_told(family, marks) and member_path(family, way) is not None


def many_children(family, way):
    """How many children a member has."""
    return len(family[member_path(family, way)[-1]][2])


def is_joining_paper(value, marks):
    """Whether a value has the form of a JOINING PAPER on customs of so many marks."""
    if not isinstance(value, tuple) or len(value) < 2:
        return False
    if value[0] == "custom":
        return len(value) == 2 and is_custom(value[1]) and value[1][0] == marks
    if value[0] == "line":
        return len(value) == 3 and is_place(value[1], value[2], marks)
    if value[0] != "row" or len(value) != 6:
        return False
    _, family, way, other, other_way, many = value
    if not is_place(family, way, marks) or not is_place(other, other_way, marks):
        return False
    return is_between(many, 1, min(many_children(family, way), many_children(other, other_way)))


def below(heir, way):
    """The way of an heir from this member, or None if it isn't in the line."""
    return heir[len(way):] if heir is not None and heir[:len(way)] == way else None


def line_of(family, way):
    """The line of a member, in SHORT FORM."""
    shelf = Shelf()
    return shelf.short(shelf.path(shelf.keep_family(family), way)[-1])


def is_line_witness(scheme, custom, other, paper):
    """Whether the heir is in a line that would have another one by itself."""
    _, family, way = paper
    heir = below(picked_heir(scheme, custom, other, family), way)
    return heir is not None and heir != picked_heir(scheme, custom, other, line_of(family, way))


def is_row_witness(scheme, custom, other, paper):
    """Whether children that read alike hold unlike heirs in two families."""
    _, family, way, far_family, far_way, many = paper
    shelf = Shelf()
    rows = []
    heirs = []
    for lines, parent in ((family, way), (far_family, far_way)):
        number = shelf.path(shelf.keep_family(lines), parent)[-1]
        rows.append(shelf.lines[number][2][:many])
        heirs.append(below(picked_heir(scheme, custom, other, lines), parent))
    if rows[0] != rows[1] or heirs[0] == heirs[1]:
        return False
    return all([heir is not None and heir != () and heir[0] < many for heir in heirs])


def check_joining(scheme, custom, other, paper):
    """True if the paper is a CUSTOM that joins the two, False if it is a WITNESS."""
    need_two(scheme, custom, other)
    if not is_joining_paper(paper, custom[0]):
        raise BadPaper("form")
    if paper[0] == "custom":
        if search_of(scheme, custom, other, paper[1]).unjoined is not None:
            raise BadPaper("custom")
        return True
    if paper[0] == "line" and not is_line_witness(scheme, custom, other, paper):
        raise BadPaper("line")
    if paper[0] == "row" and not is_row_witness(scheme, custom, other, paper):
        raise BadPaper("row")
    return False


def need_third(scheme, custom, other, third):
    """Raise unless these are a SCHEME and three customs of as many marks."""
    need_two(scheme, custom, other)
    need_custom(third)
    if third[0] != custom[0]:
        raise BadMarks(third[0])


def joins(scheme, custom, other, third):
    """Whether the third custom joins the two."""
    need_third(scheme, custom, other, third)
    return search_of(scheme, custom, other, third).unjoined is None


def unjoined_family(scheme, custom, other, third):
    """A least FAMILY in which the third custom names another heir, or None."""
    need_third(scheme, custom, other, third)
    return search_of(scheme, custom, other, third).least_unjoined()
