"""The RELATION of two claimants, for two tables that read a family side by side."""

from heirlines.ways import kin_word

RELATIONS = ("none", "first", "second", "same", "above", "below", "elder", "younger")


def fitting_relations(holds, far_holds):
    """The RELATIONS that can stand where the first, or the second, holds a claimant or none."""
    if holds and far_holds:
        return RELATIONS[3:]
    if holds:
        return ("first",)
    return ("second",) if far_holds else ("none",)


def lone_relation(word, far_word):
    """The RELATION if one of two KEEPS or PICKS is "none"."""
    if word != "none":
        return "first"
    return "none" if far_word == "none" else "second"


def read_relation(keep, far_keep, held, lines):
    """The RELATION behind a child, from that of what was held and that of the child's lines."""
    if keep == "none" or far_keep == "none":
        return lone_relation(keep, far_keep)
    if keep == far_keep:
        return held if keep == "old" else lines
    return "elder" if keep == "old" else "younger"


def close_relation(pick, far_pick, held):
    """The RELATION of the claimants of a line, from that of what is held."""
    if pick == "none" or far_pick == "none":
        return lone_relation(pick, far_pick)
    if pick == far_pick:
        return "same" if pick == "self" else held
    return "above" if pick == "self" else "below"


def relation_of(heir, far_heir):
    """The RELATION of two claimants of one family, ways or None."""
    if heir is None or far_heir is None:
        return lone_relation("none" if heir is None else "line", "none" if far_heir is None else "line")
    return kin_word(heir, far_heir)
