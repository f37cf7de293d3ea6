"""Plain forms of rules, and which rules keep one order."""

from heirlines.deaths import least_disorder
from heirlines.errors import BadMarks, BadNumber
from heirlines.rules import coming_kinds, counting_kinds, has_rows, need_rule
from heirlines.ruletables import rule_table
from heirlines.sidebyside import least_apart

MOST_RULES = 60


def plain_form(rule):
    """The PLAIN FORM."""
    marks, living, dead, groups = need_rule(rule)
    if not has_rows(rule):
        words = tuple(["self" if word in ("self", "last") else "none" for word in living])
        return marks, words, (False,) * marks, ()
    coming = coming_kinds(rule)
    left = []
    for side, kinds in groups:
        kept = tuple([kind for kind in kinds if kind in coming])
        if kept:
            left.append((side, kept))
    return marks, living, dead, tuple(left)


def need_rules_alike(rule, other_rule):
    """Raise unless both are rules of as many marks."""
    need_rule(rule)
    need_rule(other_rule)
    if rule[0] != other_rule[0]:
        raise BadMarks(other_rule[0])


def are_alike_rules(rule, other_rule):
    """Whether both name the same heir in all families."""
    need_rules_alike(rule, other_rule)
    return plain_form(rule) == plain_form(other_rule)


def family_apart(rule, other_rule):
    """A least family with unlike heirs by both, or None."""
    need_rules_alike(rule, other_rule)
    return least_apart(rule_table(rule), rule_table(other_rule))


def is_ahead(places, kind, other_kind):
    """Whether a kind is ahead of another one; places are the groups of those that count."""
    if kind not in places:
        return False
    return other_kind not in places or places[kind] < places[other_kind]


def is_mark_steady(rule, places, mark):
    """Whether the death of a member with this mark leaves the others' order, in a plain form."""
    _, living, dead, _ = rule
    own, past, late = (mark, "self"), (mark, "past"), (mark, "late")
    is_level = places.get(past) == places.get(late)
    if living[mark] == "self":
        return not dead[mark] or not is_ahead(places, late, own)
    if living[mark] == "last":
        return dead[mark] and is_level and not is_ahead(places, own, past)
    if living[mark] == "line":
        return dead[mark] and is_level
    return not dead[mark]


def is_one_order(rule):
    """Whether no death but the heir's ever changes the heir."""
    plain = plain_form(rule)
    places = counting_kinds(plain[3])
    return all([is_mark_steady(plain, places, mark) for mark in range(plain[0])])


def disorder(rule):
    """A least family and a member who isn't heir, but whose death changes the heir; or None."""
    return least_disorder(rule_table(need_rule(rule)))


def lots_of_rules(rules):
    """The numbers of those that name the same heir in all families, together."""
    if not isinstance(rules, tuple) or not 1 <= len(rules) <= MOST_RULES:
        raise BadNumber(rules)
    for rule in rules:
        need_rule(rule)
        if rule[0] != rules[0][0]:
            raise BadMarks(rule[0])
    lots = {}
    for number, rule in enumerate(rules):
        lots.setdefault(plain_form(rule), []).append(number)
    return tuple([tuple(lot) for lot in list(lots.values())])
