"""Trees: small families whose members have names."""

from heirlines.counts import all_ways
from heirlines.errors import BadName
from heirlines.lettering import is_name
from heirlines.lines import line_sizes, need_family, need_small
from heirlines.scribes import TreeScribe, read_text
from heirlines.shelf import short_form
from heirlines.texts import text_of
from heirlines.ways import member_path
from heirlines.words import life_word


def need_names(many, names):
    """Raise BadName unless these are so many unlike NAMES."""
    if not isinstance(names, tuple) or len(names) != many:
        raise BadName(names)
    told = {}
    for name in names:
        if not is_name(name) or name in told:
            raise BadName(name)
        told[name] = True


def need_tree(family, names):
    """The TREE, its FAMILY in SHORT FORM."""
    need_small(need_family(family))
    need_names(line_sizes(family)[-1], names)
    return short_form(family), names


def tree_text(family, names):
    """The text of a TREE."""
    lines, _ = need_tree(family, names)
    return text_of_tree(lines, names)


def text_of_tree(lines, names):
    """The text of a TREE that is known to be one."""
    rows = []
    for way, name in zip(all_ways(lines), names):
        mark, is_alive, _ = lines[member_path(lines, way)[-1]]
        rows.append([len(way), name, mark, life_word(is_alive)])
    return text_of(rows)


def parse_tree(text):
    """The TREE that a text tells."""
    return read_text(text, TreeScribe()).thing()
