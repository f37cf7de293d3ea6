"""Rules: customs that are told in plain words."""

from math import comb

from heirlines.checks import is_ascending, is_between, is_truth, need_marks
from heirlines.errors import BadRule
from heirlines.lines import need_family
from heirlines.shelf import short_form
from heirlines.ways import need_member

HOWS = ("late", "past", "self")
WORDS = ("self", "last", "line", "none")
SIDES = ("eldest", "youngest")
MOST_GROUPS = 6


def is_kind(value, marks):
    """Whether a value is a KIND of so many marks."""
    if not isinstance(value, tuple) or len(value) != 2:
        return False
    return is_between(value[0], 0, marks - 1) and value[1] in HOWS


def is_group(value, marks):
    """Whether a value is a pair of a side and kinds."""
    if not isinstance(value, tuple) or len(value) != 2 or value[0] not in SIDES:
        return False
    kinds = value[1]
    if not isinstance(kinds, tuple) or len(kinds) == 0:
        return False
    return all([is_kind(kind, marks) for kind in kinds]) and is_ascending(kinds)


def is_groups(value, marks):
    """Whether a value is GROUPS of so many marks."""
    if not isinstance(value, tuple) or len(value) > MOST_GROUPS:
        return False
    if not all([is_group(group, marks) for group in value]):
        return False
    return len(counting_kinds(value)) == sum([len(kinds) for _, kinds in value])


def is_living(value, marks):
    """Whether a value is LIVING of so many marks."""
    return isinstance(value, tuple) and len(value) == marks and all([word in WORDS for word in value])


def is_dead(value, marks):
    """Whether a value is DEAD of so many marks."""
    return isinstance(value, tuple) and len(value) == marks and all([is_truth(item) for item in value])


def rule_fault(value):
    """The first word that tells what is wrong with a rule, or None."""
    if not isinstance(value, tuple) or len(value) != 4:
        return "form"
    marks, living, dead, groups = value
    if not is_between(marks, 1, 3):
        return "marks"
    if not is_living(living, marks):
        return "living"
    if not is_dead(dead, marks):
        return "dead"
    if not is_groups(groups, marks):
        return "groups"
    return None


def need_rule(rule):
    """Return the rule itself, or raise BadRule."""
    word = rule_fault(rule)
    if word is not None:
        raise BadRule(word)
    return rule


def kinds_of(marks):
    """The ascending tuple of all KINDS of so many marks."""
    return tuple([(mark, how) for mark in range(marks) for how in HOWS])


def all_kinds(marks):
    """The ascending tuple of all KINDS."""
    need_marks(marks)
    return kinds_of(marks)


def counting_kinds(groups):
    """For each kind that counts the number of its group."""
    places = {}
    for place, (_, kinds) in enumerate(groups):
        for kind in kinds:
            places[kind] = place
    return places


def own_kinds(rule):
    """The kinds with "self" that come."""
    return [(mark, "self") for mark, word in enumerate(rule[1]) if word in ("self", "last")]


def is_claim_in_rows(rule):
    """Whether some kind with "self" that comes counts, so that rows have claimants."""
    counting = counting_kinds(rule[3])
    return any([kind in counting for kind in own_kinds(rule)])


def coming_kinds(rule):
    """The kinds that come, in no order."""
    kinds = own_kinds(rule)
    if is_claim_in_rows(rule):
        kinds += [(mark, "past") for mark, word in enumerate(rule[1]) if word in ("last", "line")]
        kinds += [(mark, "late") for mark, is_led in enumerate(rule[2]) if is_led]
    return kinds


def kinds_that_come(rule):
    """The ascending tuple of the kinds that come with the rule."""
    return tuple(sorted(coming_kinds(need_rule(rule))))


def leads_rows(rule):
    """Whether some member leads on what its row has."""
    return any(list(rule[2])) or any([word in ("last", "line") for word in rule[1]])


def has_rows(rule):
    """Whether the rule has rows."""
    need_rule(rule)
    return is_claim_in_rows(rule) and leads_rows(rule)


def mirrored_rule(rule):
    """The rule with the other side in each group."""
    marks, living, dead, groups = need_rule(rule)
    turned = [("youngest" if side == "eldest" else "eldest", kinds) for side, kinds in groups]
    return marks, living, dead, tuple(turned)


def mirrored_family(family):
    """The family in which children stand the other way round."""
    need_family(family)
    return short_form([(mark, is_alive, children[::-1]) for mark, is_alive, children in family])


def mirrored_way(family, way):
    """The member's way in the mirrored family."""
    path = need_member(need_family(family), way)
    return tuple([len(family[path[level]][2]) - 1 - place for level, place in enumerate(way)])


def many_groups(kinds, most):
    """How many GROUPS with at most so many groups there are of some of so many kinds."""
    if most == 0:
        return 1
    many = 1
    for first in range(1, kinds + 1):
        many += comb(kinds, first) * len(SIDES) * many_groups(kinds - first, most - 1)
    return many


def many_tables(marks):
    """How many pairs of LIVING and DEAD there are, by how many selfs, pasts and lates come with them."""
    tables = {(0, 0): 1}
    for _ in range(marks):
        more = {}
        for (selfs, others), many in tables.items():
            # "self", "last", "line", "none", each with DEAD False and True
            for own, past in ((1, 0), (1, 1), (0, 1), (0, 0)):
                for late in (0, 1):
                    key = (selfs + own, others + past + late)
                    more[key] = more.get(key, 0) + many
        tables = more
    return tables


def how_many_rules(marks):
    """How many rules there are of so many marks."""
    need_marks(marks)
    many = many_groups(len(HOWS) * marks, MOST_GROUPS)
    for _ in range(marks):
        many *= 2 * len(WORDS)
    return many


def how_many_plain_forms(marks):
    """How many plain forms there are of so many marks."""
    need_marks(marks)
    # those without rows have "self" or "none" for each mark, and nothing else
    many = 1
    for _ in range(marks):
        many *= 2
    for (selfs, others), tables in many_tables(marks).items():
        if others > 0:
            with_rows = many_groups(selfs + others, MOST_GROUPS) - many_groups(others, MOST_GROUPS)
            many += tables * with_rows
    return many
