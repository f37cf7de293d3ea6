"""Rules as tables like those of customs, with a stand for each group."""

from heirlines.rules import counting_kinds, kinds_of


def rule_table(rule):
    """A table with a rank for each kind; it may have more than 8 ranks, as no custom has."""
    kinds = kinds_of(rule[0])
    return table_by(rule, (None,) + kinds, {kind: at + 1 for at, kind in enumerate(kinds)})


def small_table(rule):
    """A table with a rank for each group, and one for all kinds that don't count."""
    counting = counting_kinds(rule[3])
    uncounted = len(rule[3]) + 1
    numbers = {kind: counting.get(kind, uncounted - 1) + 1 for kind in kinds_of(rule[0])}
    return table_by(rule, (None,) + tuple([kinds[0] for _, kinds in rule[3]]) + (None,), numbers)


def table_by(rule, shown, numbers):
    """A table that names the same heirs as the rule.

    The rank 0 is no claimant; shown has for each rank a kind that is read like
    it, None of what leaves a row as it was; numbers has the rank of each kind.
    """
    marks, living, dead, groups = rule
    stands = (False,) + tuple([True] * len(groups))
    ranks = (False,) + tuple([True] * (len(shown) - 1))
    read = [tuple([read_cell(groups, stand, kind) for kind in shown]) for stand in range(len(stands))]
    close = []
    for mark in range(marks):
        dead_row = tuple([dead_cell(numbers, mark, dead[mark], stand) for stand in range(len(stands))])
        living_row = tuple([living_cell(numbers, mark, living[mark], stand) for stand in range(len(stands))])
        close.append((dead_row, living_row))
    return marks, stands, ranks, tuple(read), tuple(close)


def read_cell(groups, stand, kind):
    """The stand and KEEP behind a child's line; the stand 0 is no claimant, others are groups."""
    group = counting_kinds(groups).get(kind)
    if group is None or (0 < stand < group + 1):
        return (stand, "old") if stand > 0 else (0, "none")
    if stand == group + 1 and groups[group][0] == "eldest":
        return stand, "old"
    return group + 1, "new"


def dead_cell(numbers, mark, is_led, stand):
    """The rank and PICK of a dead member's line."""
    if is_led and stand > 0:
        return numbers[(mark, "late")], "line"
    return 0, "none"


def living_cell(numbers, mark, word, stand):
    """The rank and PICK of a living member's line."""
    if word == "self" or (word == "last" and stand == 0):
        return numbers[(mark, "self")], "self"
    if word in ("last", "line") and stand > 0:
        return numbers[(mark, "past")], "line"
    return 0, "none"
