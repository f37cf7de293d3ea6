"""heirlines.ruletables and heirlines.deaths: what the modules of rules stand on"""

import unittest

from heirlines.customs import need_custom
from heirlines.deaths import DeathSearch
from heirlines.ruletables import rule_table
from tests.helper import (ELDEST, YOUNGEST, all_families, all_rules, at, customs, grow, read_member, rule_line, rules,
                          size_of, small_families, ways_of)


class RuleTables(unittest.TestCase):

    def test_they_are_customs_where_they_are_small(self):
        for rule in all_rules() + rules(400, 200, 2):
            table = rule_table(rule)
            self.assertIs(need_custom(table), table)
            self.assertEqual((len(table[1]), len(table[2])), (len(rule[3]) + 1, 3 * rule[0] + 1))

    def test_the_same_heirs(self):
        families = all_families(4, 1)
        for rule in all_rules()[::29]:
            for family in families:
                self.assertEqual(read_member(rule_table(rule), grow(family))[1], rule_line(rule, grow(family))[1])
        for rule in rules(401, 60, 2) + rules(402, 60, 3):
            for family in small_families(403, 12, most=25, marks=rule[0]):
                self.assertEqual(read_member(rule_table(rule), grow(family))[1], rule_line(rule, grow(family))[1])


class Deaths(unittest.TestCase):

    def what_it_does(self, heir, far_heir, way):
        if heir == way:
            return "marked"
        if heir == far_heir:
            return "none" if heir is None else "same"
        return "other"

    def shown(self, custom, families):
        """The least sizes of lines with one death in them, and of whole ones."""
        least = {}
        for family in families:
            founder = grow(family)
            rank, heir = read_member(custom, founder)
            states = [(rank, rank, "whole")]
            for way in ways_of(founder):
                if at(founder, way).is_alive:
                    at(founder, way).is_alive = False
                    far_rank, far_heir = read_member(custom, founder)
                    at(founder, way).is_alive = True
                    states.append((rank, far_rank, self.what_it_does(heir, far_heir, way)))
            for state in states:
                least[state] = min(least.get(state, 99), size_of(family))
        return least

    def test_against_all_small_families(self):
        families = all_families(5, 1)
        for custom in [ELDEST, YOUNGEST] + customs(410, 25, 1, 4):
            search = DeathSearch(custom)
            told = {state: search.size_of_line(state) for state in search.lines}
            self.assertEqual({state: size for state, size in told.items() if size <= 5}, self.shown(custom, families))

    def test_told_families_show_their_states(self):
        for custom in customs(411, 40, 2, 5):
            search = DeathSearch(custom)
            for state in list(search.lines):
                if state[2] == "whole" or search.size_of_line(state) > 300:
                    continue
                family, way = search.family(state), search.who_dies(state)
                founder = grow(family)
                self.assertEqual(size_of(family), search.size_of_line(state))
                rank, heir = read_member(custom, founder)
                self.assertTrue(at(founder, way).is_alive)
                at(founder, way).is_alive = False
                far_rank, far_heir = read_member(custom, founder)
                self.assertEqual((rank, far_rank, self.what_it_does(heir, far_heir, way)), state)


if __name__ == "__main__":
    unittest.main()
