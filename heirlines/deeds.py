"""Births and deaths, and what comes of them."""

from heirlines.checks import is_ascending, is_between, is_whole_row
from heirlines.errors import BadDeed, BadStory, BadWay, TooGreat
from heirlines.lines import MOST_CHILDREN, MOST_LINES, need_family, within_bounds
from heirlines.readings import Reader, need_read
from heirlines.shelf import Shelf
from heirlines.ways import common_length, is_any_way

MOST_DEEDS = 200
MOST_DEATHS = 300


def is_deed_form(value):
    """Whether a value is as long as a deed, with a deed's word."""
    if not isinstance(value, tuple):
        return False
    return (len(value) == 3 and value[0] == "birth") or (len(value) == 2 and value[0] == "death")


def deed_fault(shelf, top, deed, marks):
    """The word that tells why a deed isn't possible, or None."""
    if not is_deed_form(deed):
        return "form"
    if not is_whole_row(deed[1]) or any([place >= MOST_CHILDREN for place in deed[1]]):
        return "way"
    path = shelf.path(top, deed[1])
    if path is None:
        return "way"
    if not shelf.lines[path[-1]][1]:
        return "life"
    if len(deed) == 3 and not is_between(deed[2], 0, marks - 1):
        return "mark"
    return None


def done(shelf, top, deed):
    """The founder's number behind a deed that is possible."""
    if deed[0] == "death":
        return shelf.dead_at(top, deed[1])
    mark, is_alive, children = shelf.lines[shelf.path(top, deed[1])[-1]]
    newborn = shelf.keep(deed[2], True, ())
    return shelf.put_at(top, deed[1], shelf.keep(mark, is_alive, children + (newborn,)))


def tops_behind(shelf, top, story, marks):
    """The founder's numbers behind no deed, the first one, and so on."""
    if not isinstance(story, tuple) or len(story) > MOST_DEEDS:
        raise BadStory(None)
    tops = [top]
    for number, deed in enumerate(story):
        if deed_fault(shelf, tops[-1], deed, marks) is not None:
            raise BadStory(number)
        tops.append(done(shelf, tops[-1], deed))
    return tops


def need_deed(family, deed, marks=3):
    """Return the deed itself, if it is possible."""
    need_family(family, marks)
    shelf = Shelf()
    word = deed_fault(shelf, shelf.keep_family(family), deed, marks)
    if word is not None:
        raise BadDeed(word)
    return deed


def after(family, deed):
    """The family behind a deed."""
    need_deed(family, deed)
    shelf = Shelf()
    return within_bounds(shelf.short(done(shelf, shelf.keep_family(family), deed)))


def behind(family, story):
    """The family behind a story."""
    need_family(family)
    shelf = Shelf()
    tops = tops_behind(shelf, shelf.keep_family(family), story, 3)
    return within_bounds(shelf.short(tops[-1]))


def need_any_deed(deed):
    """Raise BadDeed unless this may be a deed in some family."""
    if not is_deed_form(deed):
        raise BadDeed("form")
    if not is_any_way(deed[1]):
        raise BadDeed("way")
    if len(deed) == 3 and not is_between(deed[2], 0, 2):
        raise BadDeed("mark")


def are_apart(deed, other_deed):
    """Whether neither way is a beginning of the other one."""
    need_any_deed(deed)
    need_any_deed(other_deed)
    return common_length(deed[1], other_deed[1]) < min(len(deed[1]), len(other_deed[1]))


def reigns(custom, family, story):
    """The heirs behind the deeds, and for how many times in a row."""
    need_read(custom, family)
    shelf = Shelf()
    reader = Reader(custom, shelf)
    tops = tops_behind(shelf, shelf.keep_family(family), story, custom[0])
    within_bounds(shelf.short(tops[-1]))
    pairs = []
    for top in tops:
        heir = reader.heir_of(top)
        if pairs and pairs[-1][0] == heir:
            pairs[-1] = (heir, pairs[-1][1] + 1)
        else:
            pairs.append((heir, 1))
    return tuple(pairs)


def deaths_of(family, ways):
    """The family in which these members are dead."""
    need_family(family)
    if not isinstance(ways, tuple) or len(ways) > MOST_DEATHS:
        raise BadWay(ways)
    if not all([is_whole_row(way) for way in ways]) or not is_ascending(ways):
        raise BadWay(ways)
    shelf = Shelf()
    top = shelf.keep_family(family)
    for way in ways:
        if shelf.path(top, way) is None:
            raise BadWay(way)
        top = shelf.dead_at(top, way)
    lines = shelf.short(top)
    if len(lines) > MOST_LINES:
        raise TooGreat(MOST_LINES)
    return lines
