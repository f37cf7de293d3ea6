"""Families that come of one change."""

from heirlines.checks import need_between, need_count, need_truth
from heirlines.errors import BadNumber, BadWay
from heirlines.lines import need_family, within_bounds
from heirlines.shelf import Shelf
from heirlines.ways import need_member


def put_in(family, way, other):
    """The other family in the place of the member's line."""
    need_family(family)
    need_member(family, way)
    need_family(other)
    shelf = Shelf()
    top = shelf.keep_family(family)
    return within_bounds(shelf.short(shelf.put_at(top, way, shelf.keep_family(other))))


def put_under(family, way, number, other):
    """The other family as a further child of the member."""
    need_family(family)
    path = need_member(family, way)
    need_count(number)
    if number > len(family[path[-1]][2]):
        raise BadNumber(number)
    need_family(other)
    shelf = Shelf()
    top = shelf.keep_family(family)
    mark, is_alive, children = shelf.lines[shelf.path(top, way)[-1]]
    added = children[:number] + (shelf.keep_family(other),) + children[number:]
    return within_bounds(shelf.short(shelf.put_at(top, way, shelf.keep(mark, is_alive, added))))


def taken_out(family, way):
    """The family without the member's line."""
    need_family(family)
    need_member(family, way)
    if way == ():
        raise BadWay(way)
    shelf = Shelf()
    top = shelf.keep_family(family)
    mark, is_alive, children = shelf.lines[shelf.path(top, way)[-2]]
    left = children[:way[-1]] + children[way[-1] + 1:]
    return within_bounds(shelf.short(shelf.put_at(top, way[:-1], shelf.keep(mark, is_alive, left))))


def marked(family, way, mark, is_alive):
    """The family in which the member has this mark and this life."""
    need_family(family)
    need_member(family, way)
    need_between(mark, 0, 2)
    need_truth(is_alive)
    shelf = Shelf()
    top = shelf.keep_family(family)
    children = shelf.lines[shelf.path(top, way)[-1]][2]
    return within_bounds(shelf.short(shelf.put_at(top, way, shelf.keep(mark, is_alive, children))))


def put_everywhere(family, other, new_family):
    """The new family in the place of each place of the other one."""
    need_family(family)
    need_family(other)
    need_family(new_family)
    shelf = Shelf()
    top = shelf.keep_family(family)
    target = shelf.keep_family(other)
    new = shelf.keep_family(new_family)
    becomes = []
    for number, (mark, is_alive, children) in enumerate(list(shelf.lines)):
        if number == target:
            becomes.append(new)
        else:
            becomes.append(shelf.keep(mark, is_alive, tuple([becomes[child] for child in children])))
    return within_bounds(shelf.short(becomes[top]))
