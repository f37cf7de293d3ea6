"""Who is heir, and who comes next."""

from heirlines.checks import is_whole_row, need_between
from heirlines.errors import BadPaper
from heirlines.lines import need_small
from heirlines.readings import read_family, reading
from heirlines.ways import need_member

MOST_CLAIMS = 100


def heir(custom, family):
    """The HEIR, a way or None."""
    top, reader = read_family(custom, family)
    return reader.heir_of(top)


def claims(custom, family, many):
    """The first many of the CLAIMS, or all of them."""
    top, reader = read_family(custom, family)
    need_between(many, 0, MOST_CLAIMS)
    claimants = []
    while len(claimants) < many:
        claimant = reader.heir_of(top)
        if claimant is None:
            break
        claimants.append(claimant)
        top = reader.shelf.dead_at(top, claimant)
    return tuple(claimants)


def place_of(custom, family, way):
    """The place of a member in the CLAIMS, or None."""
    top, reader = read_family(custom, family)
    need_member(family, way)
    need_small(family)
    place = 0
    claimant = reader.heir_of(top)
    while claimant is not None:
        if claimant == way:
            return place
        place += 1
        top = reader.shelf.dead_at(top, claimant)
        claimant = reader.heir_of(top)
    return None


def heir_paper(custom, family):
    """The right PAPER on the heir."""
    pairs = reading(custom, family)
    return "heir", tuple([rank for rank, _ in pairs]), pairs[-1][1]


def is_paper(value):
    """Whether a value has the form of a PAPER on an heir."""
    if not isinstance(value, tuple) or len(value) != 3 or value[0] != "heir":
        return False
    return is_whole_row(value[1]) and (value[2] is None or is_whole_row(value[2]))


def check_heir(custom, family, paper):
    """The heir that a right PAPER shows."""
    _, ranks, way = heir_paper(custom, family)
    if not is_paper(paper):
        raise BadPaper("form")
    if paper[1] != ranks:
        raise BadPaper("ranks")
    if paper[2] != way:
        raise BadPaper("way")
    return way
