"""Rules told as customs, and customs told as rules."""

from heirlines.customs import need_custom
from heirlines.heirs import heir
from heirlines.rules import MOST_GROUPS, kinds_of, need_rule
from heirlines.ruletables import small_table
from heirlines.sidebyside import least_apart


def custom_of(rule):
    """A custom that names the same heir in all families."""
    return small_table(need_rule(rule))


def rule_of(custom):
    """The PLAIN FORM of a rule that names the same heir in all families, or None."""
    need_custom(custom)
    rule = RuleGuess(custom).plain_rule()
    if len(rule[3]) > MOST_GROUPS or least_apart(custom, small_table(rule)) is not None:
        return None
    return rule


class RuleGuess:
    """The one PLAIN FORM that a custom can have, by its heirs in families of a few members."""

    def __init__(self, custom):
        self.custom = custom
        self.marks = custom[0]
        # members that are childless, and name themselves
        self.selfs = [mark for mark in range(self.marks) if self.heir_of(((mark, True, ()),)) == ()]
        self.leaders = []
        self.counted = []
        for mark in self.selfs:
            for life in (False, True):
                led = [(above, life) for above in range(self.marks) if self.is_led_by(above, life, mark)]
                self.leaders += led
                if led and mark not in self.counted:
                    self.counted.append(mark)

    def heir_of(self, family):
        """The heir by the custom."""
        return heir(self.custom, family)

    def is_led_by(self, mark, is_alive, child):
        """Whether such a member's line has the claimant of its only child's."""
        return self.heir_of(((child, True, ()), (mark, is_alive, (0,)))) == (0,)

    def plain_rule(self):
        """The rule; where the custom has no rule at all it is just a guess."""
        living = []
        for mark in range(self.marks):
            if (mark, True) in self.leaders:
                living.append("last" if mark in self.selfs else "line")
            else:
                living.append("self" if mark in self.selfs else "none")
        dead = [(mark, False) in self.leaders for mark in range(self.marks)]
        groups = self.groups_of(tuple(living), dead) if self.leaders else ()
        return self.marks, tuple(living), tuple(dead), groups

    def groups_of(self, living, dead):
        """The groups of the kinds that count, by which of two lines names the heir."""
        kinds = [kind for kind in kinds_of(self.marks) if self.comes(kind, living, dead)]
        kinds = [kind for kind in kinds if self.chosen((kind,)) == 0]
        lots = {}
        for kind in kinds:
            ahead = [other for other in kinds if self.is_ahead(other, kind)]
            lots.setdefault(len(ahead), []).append(kind)
        groups = []
        for many in sorted(list(lots)):
            first = lots[many][0]
            side = "eldest" if self.chosen((first, first)) == 0 else "youngest"
            groups.append((side, tuple(lots[many])))
        return tuple(groups)

    def comes(self, kind, living, dead):
        """Whether a kind comes with a rule that has rows, and this LIVING and DEAD."""
        mark, how = kind
        if how == "late":
            return dead[mark]
        return living[mark] in (("last", "line") if how == "past" else ("self", "last"))

    def is_ahead(self, kind, other):
        """Whether the first kind's line names the heir, wherever it stands."""
        return self.chosen((kind, other)) == 0 and self.chosen((other, kind)) == 1

    def chosen(self, kinds):
        """The number of the line that names the heir among lines of these kinds."""
        mark, is_alive = self.leaders[0]
        family = [(self.counted[0], True, ())]
        children = []
        for own_mark, how in kinds:
            family.append((own_mark, how != "late", () if how == "self" else (0,)))
            children.append(len(family) - 1)
        way = self.heir_of(tuple(family) + ((mark, is_alive, tuple(children)),))
        return way[0] if way else None
