"""Whether one order lasts through all stories."""

from heirlines.customs import need_custom
from heirlines.deeds import tops_behind
from heirlines.lines import need_small
from heirlines.outcomes import LOOKS, case_of, outcomes
from heirlines.readings import Reader, need_read
from heirlines.shelf import Shelf
from heirlines.steady import is_steady
from heirlines.ways import member_path


def kept_looks(change):
    """The LOOKS by which a CHANGE leaves the order as it is."""
    return ("none", "same", "newborn") if change[0] == "birth" else ("none", "same")


def changes_of(custom):
    """All CHANGES that a lasting custom doesn't mind; births come behind deaths."""
    marks = list(range(custom[0]))
    return [("another",)] + [("birth", mark) for mark in marks] + [("stillbirth", mark) for mark in marks]


def is_lasting(custom):
    """Whether deaths and births never change the order of the others."""
    if not is_steady(custom):
        return False
    for change in changes_of(custom):
        if not all([word in kept_looks(change) for word in outcomes(custom, change)]):
            return False
    return True


def harm(custom):
    """A family and a story of at most 3 deeds that changes the order of the others, or None."""
    need_custom(custom)
    for change in changes_of(custom):
        kept = kept_looks(change)
        case = case_of(custom, change, [word for word in LOOKS if word not in kept])
        if case is not None:
            return harmful(change, case[0], case[1])
    return None


def harmful(change, family, way):
    """A family and a story that ends with what this INSTANCE makes of its family."""
    if change[0] == "another":
        return family, (("death", way),)
    shelf = Shelf()
    top = shelf.keep_family(family)
    mark, is_alive, children = shelf.lines[shelf.path(top, way)[-1]]
    story = (("birth", way, change[1]),)
    if change[0] == "stillbirth":
        story += (("death", way + (len(children),)),)
    if not is_alive:
        # only the living have children; deaths alone keep the order, so the parent may die behind the birth
        story += (("death", way),)
        top = shelf.put_at(top, way, shelf.keep(mark, True, children))
    return shelf.short(top), story


def all_claims(reader, top):
    """All CLAIMS of a family on the reader's shelf."""
    claimants = []
    claimant = reader.heir_of(top)
    while claimant is not None:
        claimants.append(claimant)
        top = reader.shelf.dead_at(top, claimant)
        claimant = reader.heir_of(top)
    return claimants


def is_kept(custom, family, story):
    """Whether the story leaves the order of the others in this family."""
    need_read(custom, family)
    shelf = Shelf()
    reader = Reader(custom, shelf)
    tops = tops_behind(shelf, shelf.keep_family(family), story, custom[0])
    need_small(family)
    dead = {deed[1]: True for deed in story if deed[0] == "death"}
    ahead = [way for way in all_claims(reader, tops[0]) if way not in dead]
    behind = [way for way in all_claims(reader, tops[-1]) if member_path(family, way) is not None]
    return ahead == behind
