"""What is asked of futures: wishes and terms."""

from heirlines.customs import need_custom
from heirlines.errors import BadTerms, BadWish, TooGreat
from heirlines.lines import line_sizes, need_family
from heirlines.shelf import short_form
from heirlines.ways import member_path

MOST_LINES_HERE = 100
MOST_CHILDREN_HERE = 24
MOST_MEMBERS_HERE = 10 ** 30
MOST_TERMS = 40
MOST_SPINE = 300
TERM_WORDS = ("lives", "dead", "quiet")


def need_chances(custom, family):
    """The SHORT FORM of the family, unless it is too great to ask for its futures."""
    need_custom(custom)
    lines = short_form(need_family(family, custom[0]))
    if len(lines) > MOST_LINES_HERE:
        raise TooGreat(MOST_LINES_HERE)
    if max([len(line[2]) for line in lines]) > MOST_CHILDREN_HERE:
        raise TooGreat(MOST_CHILDREN_HERE)
    if line_sizes(lines)[-1] > MOST_MEMBERS_HERE:
        raise TooGreat(MOST_MEMBERS_HERE)
    return lines


def is_wish_form(value):
    """Whether a value is as long as a wish, with a wish's word."""
    if not isinstance(value, tuple):
        return False
    if len(value) == 1:
        return value[0] in ("newborn", "none")
    return len(value) == 2 and value[0] in ("heir", "another")


def need_wish(lines, wish):
    """Raise BadWish unless this is a wish for the family."""
    if not is_wish_form(wish):
        raise BadWish("form")
    if len(wish) == 2 and member_path(lines, wish[1]) is None:
        raise BadWish("way")


def is_term(lines, value):
    """Whether a value is a pair of a member's way and a word."""
    if not isinstance(value, tuple) or len(value) != 2 or value[1] not in TERM_WORDS:
        return False
    return member_path(lines, value[0]) is not None


def need_terms(lines, terms):
    """Raise BadTerms unless these are terms for the family."""
    if not isinstance(terms, tuple) or len(terms) > MOST_TERMS:
        raise BadTerms(None)
    told = {}
    for number, item in enumerate(terms):
        if not is_term(lines, item) or item[0] in told:
            raise BadTerms(number)
        told[item[0]] = True


def spine_ways(wish, terms):
    """The ways that have a scale of their own, ascending."""
    ways = {(): True}
    for way in [term[0] for term in terms] + list(wish[1:]):
        for level in range(len(way)):
            ways[way[:level + 1]] = True
    return sorted(list(ways))


def need_asked(custom, family, wish, terms):
    """The SHORT FORM of the family, if the wish and the terms can be asked of its futures."""
    lines = need_chances(custom, family)
    need_wish(lines, wish)
    need_terms(lines, terms)
    if len(spine_ways(wish, terms)) > MOST_SPINE:
        raise TooGreat(MOST_SPINE)
    return lines


def is_fitting(custom, wish, key):
    """Whether a founder's line with this pair of a rank and whether the claimant is wanted fits the wish."""
    rank, is_wanted = key
    if wish[0] in ("heir", "newborn"):
        return is_wanted
    return not is_wanted and (wish[0] == "another" or not custom[2][rank])


def is_granted(lines, wish, heir):
    """Whether the wish holds where this is the heir."""
    if wish[0] == "none":
        return heir is None
    if wish[0] == "newborn":
        return heir is not None and member_path(lines, heir) is None
    return (heir == wish[1]) == (wish[0] == "heir")


def are_kept(twofold, terms):
    """Whether the terms hold in a future; both families are on one shelf."""
    for way, word in terms:
        number = twofold.shelf.path(twofold.top[1], way)[-1]
        if word == "quiet":
            if number != twofold.shelf.path(twofold.top[0], way)[-1]:
                return False
        elif twofold.shelf.lines[number][1] != (word == "lives"):
            return False
    return True
