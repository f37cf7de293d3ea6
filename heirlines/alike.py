"""Customs that name the same heir in all families, and papers on it."""

from heirlines.checks import is_ascending
from heirlines.customs import is_custom, same_marks
from heirlines.errors import BadCases, BadPaper
from heirlines.lines import is_told
from heirlines.pairs import is_triple
from heirlines.readings import heir_in
from heirlines.sidebyside import APART, PairSearch, close_pair, least_apart, read_pair

MOST_CUSTOMS = 8


def are_alike(custom, other):
    """Whether both name the same heir in all families."""
    same_marks(custom, other)
    return least_apart(custom, other) is None


def alike_paper(custom, other):
    """A PAPER that shows whether they are alike."""
    same_marks(custom, other)
    search = PairSearch(custom, other)
    family = search.least_apart()
    if family is not None:
        return "part", family
    return "alike", tuple(sorted(list(search.lines))), tuple(sorted(list(search.rows)))


def is_triples(value, holds, far_holds):
    """Whether a value is an ascending tuple of triples of numbers and a RELATION."""
    if not isinstance(value, tuple):
        return False
    return all([is_triple(item, holds, far_holds) for item in value]) and is_ascending(value)


def is_paper(custom, other, value):
    """Whether a value has the form of a PAPER on the two customs."""
    if not isinstance(value, tuple):
        return False
    if len(value) == 2:
        return value[0] == "part"
    if len(value) != 3 or value[0] != "alike":
        return False
    return is_triples(value[1], custom[2], other[2]) and is_triples(value[2], custom[1], other[1])


def table_fault(custom, other, lines, stands):
    """The word that tells what is wrong with the tables of a PAPER, or None."""
    in_lines = {triple: True for triple in lines}
    in_stands = {triple: True for triple in stands}
    if (0, 0, "none") not in in_stands:
        return "start"
    for row in stands:
        if not all([read_pair(custom, other, row, line) in in_stands for line in lines]):
            return "read"
    for row in stands:
        for mark in range(custom[0]):
            for is_alive in (False, True):
                if close_pair(custom, other, row, mark, is_alive) not in in_lines:
                    return "close"
    if any([triple[2] in APART for triple in lines]):
        return "relation"
    return None


def check_alike(custom, other, paper):
    """Whether a right PAPER shows that they are alike, or that they are parted."""
    same_marks(custom, other)
    if not is_paper(custom, other, paper):
        raise BadPaper("form")
    if paper[0] == "alike":
        word = table_fault(custom, other, paper[1], paper[2])
        if word is not None:
            raise BadPaper(word)
        return True
    if not is_told(paper[1], custom[0]):
        raise BadPaper("family")
    if heir_in(custom, paper[1]) == heir_in(other, paper[1]):
        raise BadPaper("heirs")
    return False


def alike_lots(customs):
    """The numbers of the customs that name the same heir in all families, together."""
    if not isinstance(customs, tuple) or not 1 <= len(customs) <= MOST_CUSTOMS:
        raise BadCases(None)
    for number, custom in enumerate(customs):
        if not is_custom(custom) or custom[0] != customs[0][0]:
            raise BadCases(number)
    lots = []
    for number, custom in enumerate(customs):
        first = [lot for lot in lots if least_apart(customs[lot[0]], custom) is None]
        if first:
            first[0].append(number)
        else:
            lots.append([number])
    return tuple([tuple(lot) for lot in lots])
