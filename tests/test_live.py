"""heirlines.live: point [74] and [4]"""

import operator
import random
import unittest

from heirlines.errors import BadName, NothingBack
from heirlines.heirs import claims, heir
from heirlines.live import House, under
from heirlines.readings import heir_in
from heirlines.shorts import short
from tests.helper import (ELDEST, YOUNGEST, Member, at, chain, customs, grow, line_of_claim, narrow, raised,
                          small_families, tell, ways_of)
from tests.helper import heir_in as slow_heir
from tests.interface_tables import CUSTOMS, FAMILIES

LEAF = (0, True, ())
# a dead founder over a living child, and one with a child
FAMILY = (LEAF, (0, True, (0,)), (0, False, (0, 1)))
NAMES = ("ann", "bob", "cat", "dan")
NAMED = [f"{chr(97 + at // 26)}{chr(97 + at % 26)}" for at in range(600)]


class Slow:
    """A first tree and a record, looked at anew for each question: members by names."""

    def __init__(self, first, record):
        self.founder = grow(first[0])
        self.members = {name: at(self.founder, way) for way, name in zip(sorted(ways_of(self.founder)), first[1])}
        self.heirs = []
        self.story = []
        for deed in record:
            self.story.append(self.do(deed))

    def do(self, deed):
        member = self.members[deed[1]]
        assert member.is_alive
        way = self.way_of(deed[1])
        if deed[0] == "death":
            member.is_alive = False
            return ("death", way)
        assert deed[2] not in self.members
        self.members[deed[2]] = Member(deed[3], True, [])
        member.children.append(self.members[deed[2]])
        return ("birth", way, deed[3])

    def way_of(self, name):
        return [way for way in ways_of(self.founder) if at(self.founder, way) is self.members[name]][0]

    def name_at(self, way):
        return [name for name, member in self.members.items() if member is at(self.founder, way)][0]

    def tree(self):
        return tell(self.founder), tuple(self.name_at(way) for way in sorted(ways_of(self.founder)))


def is_possible(first, record):
    """The number of the first deed that isn't possible, None if all are."""
    for number in range(len(record)):
        try:
            Slow(first, record[:number + 1])
        except (AssertionError, KeyError):
            return number
    return None


def random_deed(rng, names, marks=1):
    if rng.random() < 0.6:
        return ("birth", rng.choice(names), rng.choice(NAMED + ["ann"]), rng.randrange(marks))
    return ("death", rng.choice(names))


def state(house):
    """All that can be told of a house."""
    return (house.custom, house.first, house.record, house.family, house.names, house.heir_name(),
            house.claim_names(100), house.as_story(), house.named_reigns())


def ways_back(house):
    """How many steps can be taken back, and done again, and what comes of each."""
    one = house.copy()
    back = []
    while raised(one.undo) is None:
        back.append(one.record)
    one = house.copy()
    on = []
    while raised(one.again) is None:
        on.append(one.record)
    return back, on


class Houses(unittest.TestCase):

    def check(self, house):
        """All questions, against a look at all members anew."""
        slow = Slow(house.first, house.record)
        self.assertEqual((house.family, house.names), slow.tree())
        self.assertEqual(house.moment(len(house.record)), slow.tree())
        named = slow_heir(house.custom, slow.founder)
        self.assertEqual(house.heir_name(), None if named is None else slow.name_at(named))
        claimants = line_of_claim(house.custom, slow.founder)
        for many in (0, 1, 3, 100):
            self.assertEqual(house.claim_names(many), tuple(slow.name_at(way) for way in claimants[:many]))
        for name in slow.members:
            self.assertEqual(house.way_of(name), slow.way_of(name))
            self.assertEqual(house.name_at(slow.way_of(name)), name)
        self.assertEqual(house.as_story(), tuple(slow.story))
        told = []
        for many in range(len(house.record) + 1):
            moment = Slow(house.first, house.record[:many])
            self.assertEqual(house.moment(many), moment.tree())
            one = slow_heir(house.custom, moment.founder)
            told.append(None if one is None else moment.name_at(one))
        pairs = []
        for name in told:
            if pairs and pairs[-1][0] == name:
                pairs[-1][1] += 1
            else:
                pairs.append([name, 1])
        self.assertEqual(house.named_reigns(), tuple((name, many) for name, many in pairs))

    def test_by_hand(self):
        house = House(ELDEST, FAMILY, NAMES)
        self.assertEqual((house.custom, house.first, house.record), (ELDEST, (FAMILY, NAMES), ()))
        self.assertEqual((house.family, house.names), (FAMILY, NAMES))
        self.assertEqual((house.heir_name(), house.claim_names(9)), ("bob", ("bob", "cat", "dan")))
        self.assertIsNone(house.enter(("birth", "bob", "eve", 0)))
        self.assertIsNone(house.enter(("death", "bob")))
        self.assertEqual(house.record, (("birth", "bob", "eve", 0), ("death", "bob")))
        self.assertEqual((house.heir_name(), house.names), ("eve", ("ann", "bob", "eve", "cat", "dan")))
        self.assertEqual(house.as_story(), (("birth", (0,), 0), ("death", (0,))))
        self.assertEqual(house.named_reigns(), (("bob", 2), ("eve", 1)))
        # a birth ahead of another one by the same member: the later one gets the next number
        self.assertIsNone(house.late(0, ("birth", "bob", "fay", 0)))
        self.assertEqual(house.names, ("ann", "bob", "fay", "eve", "cat", "dan"))
        self.assertEqual((house.way_of("eve"), house.name_at((0, 0)), house.heir_name()), ((0, 1), "fay", "fay"))
        self.assertEqual(house.moment(1), ((LEAF, (0, True, (0,)), (0, False, (1, 1))),
                                           ("ann", "bob", "fay", "cat", "dan")))
        self.assertIsNone(house.strike(2))
        self.assertEqual(house.heir_name(), "bob")
        self.assertIsNone(house.undo(steps=3))
        self.assertEqual(house.record, (("birth", "bob", "eve", 0),))
        self.assertIsNone(house.again(steps=2))
        self.assertEqual(len(house.record), 3)

    def test_nobody(self):
        house = House(ELDEST, ((0, False, ()),), ("a",))
        self.assertEqual((house.heir_name(), house.claim_names(5), house.named_reigns()), (None, (), ((None, 1),)))

    def test_random_deeds_against_a_look_anew(self):
        rng = random.Random(7300)
        for custom in [ELDEST, YOUNGEST] + customs(7301, 6, 2, 4):
            family = rng.choice(small_families(rng.randrange(10 ** 6), 5, 8, custom[0]))
            house = House(custom, family, tuple(NAMED[:len(ways_of(grow(family)))]))
            for _ in range(60):
                names = list(house.names) + ["zzz", None]
                deed = random_deed(rng, names, custom[0])
                before = state(house), ways_back(house)
                number = rng.randint(0, len(house.record))
                how = rng.randrange(6)
                if how < 2:
                    number, told = len(house.record), raised(house.enter, deed)
                    self.check_put(before, house, number, deed, told)
                elif how < 4:
                    self.check_put(before, house, number, deed, raised(house.late, number, deed))
                elif how == 4:
                    self.check_struck(before, house, number, raised(house.strike, number))
                else:
                    self.check_gone(before, house, rng.choice((True, False)), rng.randint(1, 3))
            self.check(house)

    def check_put(self, before, house, number, deed, told):
        (custom, first, record, _, _, _, _, _, _), (back, _) = before
        slow = Slow(first, record[:number])
        newest = record[:number] + (deed,) + record[number:]
        born = [one[2] for one in record if one[0] == "birth"]
        member = slow.members.get(deed[1])
        if member is None:
            due = ("BadName", deed[1])
        elif not member.is_alive:
            due = ("BadDeed", "life")
        elif deed[0] == "birth" and deed[2] in list(first[1]) + born:
            due = ("BadName", deed[2])
        else:
            wrong = is_possible(first, newest)
            due = None if wrong is None else ("BadStory", wrong - 1)
        self.assertEqual(told, due, (record, number, deed))
        if due is None:
            self.assertEqual(house.record, newest)
            self.assertEqual(ways_back(house), ([record] + back, []))
            self.check(house)
        else:
            self.assertEqual((state(house), ways_back(house)), before)

    def check_struck(self, before, house, number, told):
        (custom, first, record, _, _, _, _, _, _), (back, _) = before
        newest = record[:number] + record[number + 1:]
        wrong = is_possible(first, newest)
        due = None if wrong is None else ("BadStory", wrong + 1)
        if number == len(record):
            due = ("BadNumber", number)
        self.assertEqual(told, due)
        if due is None:
            self.assertEqual(house.record, newest)
            self.assertEqual(ways_back(house), ([record] + back, []))
        else:
            self.assertEqual((state(house), ways_back(house)), before)

    def check_gone(self, before, house, is_back, steps):
        (_, _, record, _, _, _, _, _, _), (back, on) = before
        told = raised(house.undo if is_back else house.again, steps=steps)
        ahead, behind = (back, on) if is_back else (on, back)
        if steps > len(ahead):
            self.assertEqual(told, ("NothingBack",))
            self.assertEqual((state(house), ways_back(house)), before)
            return
        self.assertIsNone(told)
        self.assertEqual(house.record, ahead[steps - 1])
        turned = ahead[:steps - 1][::-1] + [record] + behind
        self.assertEqual(ways_back(house), (ahead[steps:], turned) if is_back else (turned, ahead[steps:]))
        self.check(house)

    def test_facts_on_steps(self):
        house = House(ELDEST, FAMILY, NAMES)
        for deed in (("birth", "bob", "eve", 0), ("birth", "eve", "fay", 0), ("death", "eve"), ("death", "fay")):
            house.enter(deed)
        self.assertEqual(raised(house.strike, 0), ("BadStory", 1))
        self.assertEqual(raised(house.strike, 1), ("BadStory", 3))
        self.assertEqual(raised(house.late, 0, ("death", "eve")), ("BadName", "eve"))
        self.assertEqual(raised(house.late, 1, ("death", "eve")), ("BadStory", 1))
        self.assertEqual(raised(house.late, 2, ("death", "eve")), ("BadStory", 2))
        self.assertEqual(raised(house.late, 3, ("death", "eve")), ("BadDeed", "life"))
        self.assertEqual(raised(house.late, 0, ("death", "bob")), ("BadStory", 0))
        self.assertIsNone(house.late(1, ("death", "bob")))
        self.assertIsNone(house.strike(3))
        self.assertIsNone(house.strike(3))
        self.assertEqual(house.record, (("birth", "bob", "eve", 0), ("death", "bob"), ("birth", "eve", "fay", 0)))
        self.check(house)


class Errors(unittest.TestCase):

    def test_made_wrongly(self):
        for custom, told in CUSTOMS:
            self.assertEqual(raised(House, custom, None, None), told)
        for family, told in FAMILIES + [((LEAF, (1, True, (0,))), ("BadFamily", 1)), (chain(301), ("TooGreat", 300)),
                                        (narrow(10 ** 60), ("TooGreat", 300))]:
            self.assertEqual(raised(House, ELDEST, family, None), told)
        for names in (None, [], NAMES[:3], list(NAMES)):
            self.assertEqual(raised(House, ELDEST, FAMILY, names), ("BadName", names))
        self.assertEqual(raised(House, ELDEST, FAMILY, ("a", "a", None, "b")), ("BadName", "a"))
        self.assertEqual(raised(House, names=("a",), family=(LEAF,), custom=ELDEST), None)

    def test_made_of_what_is_not_short(self):
        house = House(ELDEST, (LEAF, LEAF, (0, False, (0, 1))), ("a", "b", "c"))
        self.assertEqual(house.family, (LEAF, (0, False, (0, 0))))
        self.assertEqual(house.first, (house.family, ("a", "b", "c")))

    def test_deeds(self):
        house = House(ELDEST, FAMILY, NAMES)
        house.enter(("birth", "bob", "eve", 0))
        house.enter(("death", "cat"))
        for deed, told in (
                (None, ("BadDeed", "form")), ("death", ("BadDeed", "form")), (["death", "bob"], ("BadDeed", "form")),
                (("death",), ("BadDeed", "form")), (("death", "bob", 0), ("BadDeed", "form")), ((), ("BadDeed", "form")),
                (("birth", "bob", "fay"), ("BadDeed", "form")), (("birth", "bob"), ("BadDeed", "form")),
                (("death", "bob", "fay", 0), ("BadDeed", "form")), ((None, "bob"), ("BadDeed", "form")),
                (("death", "zed"), ("BadName", "zed")), (("death", None), ("BadName", None)),
                (("death", ["bob"]), ("BadName", ["bob"])), (("death", ()), ("BadName", ())),
                (("death", "ann"), ("BadDeed", "life")), (("death", "cat"), ("BadDeed", "life")),
                (("birth", "zed", "bob", 7), ("BadName", "zed")), (("birth", [], None, None), ("BadName", [])),
                (("birth", "ann", "bob", 7), ("BadDeed", "life")), (("birth", "bob", "bob", 1), ("BadDeed", "mark")),
                (("birth", "bob", "bob", True), ("BadDeed", "mark")), (("birth", "bob", "bob", None), ("BadDeed", "mark")),
                (("birth", "bob", "bob", -1), ("BadDeed", "mark")), (("birth", "bob", "bob", 0), ("BadName", "bob")),
                (("birth", "bob", "eve", 0), ("BadName", "eve")), (("birth", "bob", "ann", 0), ("BadName", "ann")),
                (("birth", "bob", "nobody", 0), ("BadName", "nobody")), (("birth", "bob", None, 0), ("BadName", None)),
                (("birth", "bob", ["x"], 0), ("BadName", ["x"])), (("birth", "bob", "Fay", 0), ("BadName", "Fay"))):
            before = state(house)
            self.assertEqual(raised(house.enter, deed), told, deed)
            self.assertEqual(raised(house.enter, deed=deed), told, deed)
            self.assertEqual(raised(house.late, 2, deed), told, deed)
            self.assertEqual(raised(house.late, deed=deed, number=2), told, deed)
            self.assertEqual(state(house), before)
        # a name that is born later can't be born ahead, and isn't there yet
        self.assertEqual(raised(house.late, 0, ("birth", "bob", "eve", 0)), ("BadName", "eve"))
        self.assertEqual(raised(house.late, 0, ("birth", "eve", "fay", 0)), ("BadName", "eve"))
        self.assertIsNone(raised(house.late, 1, ("birth", "eve", "fay", 0)))
        self.assertIsNone(raised(house.late, 1, ("birth", "cat", "gus", 0)))
        self.assertEqual(raised(house.enter, ("birth", "cat", "hal", 0)), ("BadDeed", "life"))

    def test_numbers(self):
        house = House(ELDEST, FAMILY, NAMES)
        house.enter(("death", "bob"))
        for number in (None, True, False, "0", [], -1, 2, 10 ** 20):
            self.assertEqual(raised(house.late, number, None), ("BadNumber", number))
            self.assertEqual(raised(house.moment, number), ("BadNumber", number))
        for number in (None, True, False, "0", [], -1, 1, 2):
            self.assertEqual(raised(house.strike, number), ("BadNumber", number))
        for steps in (None, True, "1", [], 0, -1):
            self.assertEqual(raised(house.undo, steps=steps), ("BadNumber", steps))
            self.assertEqual(raised(house.again, steps=steps), ("BadNumber", steps))
        for many in (None, True, "1", -1, 101):
            self.assertEqual(raised(house.claim_names, many), ("BadNumber", many))
        self.assertEqual(raised(house.undo, steps=2), ("NothingBack",))
        self.assertEqual(raised(house.again), ("NothingBack",))
        self.assertRaises(TypeError, house.undo, 1)
        self.assertRaises(TypeError, house.again, 1)
        self.assertEqual(house.record, (("death", "bob"),))

    def test_names_and_ways(self):
        house = House(ELDEST, FAMILY, NAMES)
        for name in (None, 0, True, "", "zed", "nobody", ["bob"], ("bob",)):
            self.assertEqual(raised(house.way_of, name), ("BadName", name))
        for way in (None, 0, [], (2,), (0, 0), (True,), "", [0]):
            self.assertEqual(raised(house.name_at, way), ("BadWay", way))

    def test_too_great(self):
        house = House(ELDEST, chain(280), tuple(NAMED[:280]))
        for number in range(20):
            house.enter(("birth", NAMED[number], NAMED[300 + number], 0))
        self.assertEqual(raised(house.enter, ("birth", "aa", "zz", 0)), ("TooGreat", 300))
        for number in range(180):
            house.enter(("death", NAMED[number]))
        self.assertEqual(len(house.record), 200)
        self.assertEqual(raised(house.enter, ("death", NAMED[190])), ("TooGreat", 200))
        # both at once, and one ahead of which a later deed isn't possible
        self.assertEqual(raised(house.late, 0, ("birth", "aa", "zz", 0)), ("TooGreat", 200))
        self.assertEqual(raised(house.late, 0, ("death", "aa")), ("BadStory", 0))
        self.assertEqual(raised(house.late, 40, ("death", NAMED[179])), ("BadStory", 199))
        self.assertEqual(len(house.names), 300)
        house.strike(199)
        self.assertEqual(raised(house.late, 0, ("birth", "aa", "zz", 0)), ("TooGreat", 300))


class Again(unittest.TestCase):

    def house(self):
        house = House(ELDEST, FAMILY, NAMES)
        house.enter(("birth", "bob", "eve", 0))
        house.enter(("death", "bob"))
        house.enter(("death", "eve"))
        house.undo()
        return house

    def test_another_step_ends_what_can_be_done_again(self):
        house = self.house()
        house.enter(("death", "cat"))
        self.assertEqual(raised(house.again), ("NothingBack",))
        house.undo(steps=3)
        self.assertEqual(raised(house.undo), ("NothingBack",))
        house.again(steps=3)
        self.assertEqual(house.record[-1], ("death", "cat"))

    def test_what_fails_leaves_what_can_be_done_again(self):
        house = self.house()
        for call, arguments in ((house.enter, (("death", "ann"),)), (house.strike, (9,)), (house.late, (0, None))):
            self.assertIsNotNone(raised(call, *arguments))
        house.again()
        self.assertEqual(house.record[-1], ("death", "eve"))

    def test_trials(self):
        house = self.house()
        before = state(house), ways_back(house)
        with house.trial() as one:
            self.assertIs(one, house)
            one.enter(("birth", "cat", "fay", 0))
            one.undo(steps=2)
            one.again()
            one.strike(0)
            with one.trial() as two:
                self.assertIs(two, house)
                inner = state(house), ways_back(house)
                two.undo()
                two.enter(("death", "cat"))
            self.assertEqual((state(house), ways_back(house)), inner)
            self.assertNotEqual(state(house), before[0])
        self.assertEqual((state(house), ways_back(house)), before)
        house.again()
        self.assertEqual(house.record[-1], ("death", "eve"))

    def test_trials_that_end_by_errors(self):
        house = self.house()
        before = state(house), ways_back(house)
        for error in (BadName("x"), KeyError("y"), KeyboardInterrupt()):
            with self.assertRaises(type(error)) as caught:
                with house.trial() as one:
                    one.undo(steps=2)
                    with house.trial():
                        house.enter(("death", "cat"))
                        raise error
            self.assertIs(caught.exception, error)
            self.assertEqual((state(house), ways_back(house)), before)
        with self.assertRaises(NothingBack):
            with house.trial() as one:
                one.enter(("death", "cat"))
                one.undo(steps=9)
        self.assertEqual((state(house), ways_back(house)), before)

    def test_a_trial_begins_with_its_block(self):
        house = self.house()
        trial = house.trial()
        house.again()
        before = state(house), ways_back(house)
        with trial as one:
            one.undo(steps=3)
        self.assertEqual((state(house), ways_back(house)), before)

    def test_trials_left_early(self):
        house = self.house()

        def tried():
            with house.trial() as one:
                one.enter(("death", "cat"))
                return one.heir_name()

        before = state(house), ways_back(house)
        self.assertEqual(tried(), "eve")
        self.assertEqual((state(house), ways_back(house)), before)

    def test_under(self):
        house = self.house()
        before = state(house), ways_back(house)

        def deed(one):
            self.assertIs(one, house)
            one.enter(("death", "eve"))
            return one.heir_name(), len(one.record)

        self.assertEqual(under(house.trial(), deed), ("cat", 3))
        self.assertEqual(under(deed=deed, manager=house.trial()), ("cat", 3))
        self.assertIsNone(under(house.trial(), lambda one: None))
        self.assertEqual(raised(under, house.trial(), lambda one: one.enter(("death", "zed"))), ("BadName", "zed"))
        self.assertEqual((state(house), ways_back(house)), before)

    def test_under_any_manager(self):
        class Manager:
            def __enter__(self):
                self.is_in = True
                return 7

            def __exit__(self, kind, value, trace):
                self.is_in = False
                self.kind = kind
                return kind is KeyError

        manager = Manager()
        self.assertEqual(under(manager, lambda one: (one, manager.is_in)), (7, True))
        self.assertEqual((manager.is_in, manager.kind), (False, None))
        self.assertIsNone(under(manager, lambda one: {}[one]))
        self.assertIs(manager.kind, KeyError)

    def test_copies_go_on_by_themselves(self):
        house = self.house()
        twin = house.copy()
        self.assertIsNot(twin, house)
        self.assertEqual((state(twin), ways_back(twin)), (state(house), ways_back(house)))
        before = state(house), ways_back(house)
        twin.again()
        twin.enter(("birth", "cat", "fay", 0))
        self.assertEqual((state(house), ways_back(house)), before)
        other = house.copy()
        house.undo(steps=2)
        self.assertEqual((state(other), ways_back(other)), before)
        with house.trial() as one:
            kept = one.copy()
            one.again()
        self.assertEqual(kept.record, ())


class Equal(unittest.TestCase):

    def test_equal_houses(self):
        one = House(ELDEST, FAMILY, NAMES)
        other = House(ELDEST, (LEAF, LEAF, (0, True, (1,)), (0, False, (0, 2))), NAMES)
        self.assertTrue(one == other)
        self.assertFalse(one != other)
        one.enter(("death", "bob"))
        self.assertFalse(one == other)
        self.assertTrue(one != other)
        other.enter(("death", "cat"))
        self.assertTrue(one != other)
        other.undo()
        other.enter(("death", "bob"))
        # what can be taken back is not looked at
        one.undo()
        one.again()
        self.assertTrue(one == other)
        self.assertTrue(one == one.copy())

    def test_unlike_houses(self):
        house = House(ELDEST, FAMILY, NAMES)
        for other in (House(YOUNGEST, FAMILY, NAMES), House(ELDEST, FAMILY, NAMES[:3] + ("eve",)),
                      House(ELDEST, (LEAF,), ("ann",)), House(ELDEST, FAMILY[:2] + ((0, True, (0, 1)),), NAMES)):
            self.assertFalse(house == other)
            self.assertTrue(house != other)
        for value in (None, 0, "house", (ELDEST, (FAMILY, NAMES), ()), [], house.first, house.trial(), object()):
            self.assertFalse(house == value)
            self.assertTrue(house != value)
            self.assertFalse(value == house)
            self.assertTrue(value != house)

    def test_operators_raise(self):
        house = House(ELDEST, FAMILY, NAMES)
        for sign in (operator.add, operator.sub, operator.mul, operator.floordiv, operator.mod, operator.pow, operator.lt,
                     operator.le, operator.gt, operator.ge, operator.and_, operator.or_, operator.xor, operator.lshift,
                     operator.truediv, operator.contains, operator.getitem, operator.matmul):
            for other in (house.copy(), 0, "ann", ()):
                self.assertRaises(TypeError, sign, house, other)
        for sign in (operator.neg, operator.pos, operator.invert, abs, len, iter, int):
            self.assertRaises(TypeError, sign, house)

    def test_what_is_told_is_plain(self):
        house = House(ELDEST, FAMILY, NAMES)
        house.enter(("birth", "bob", "eve", 0))
        kinds = {tuple, str, int, bool, type(None)}

        def look(value):
            self.assertIn(type(value), kinds)
            for item in value if isinstance(value, tuple) else ():
                look(item)

        look(state(house) + (house.moment(1), house.way_of("eve"), house.name_at(())))
        self.assertEqual(house.heir_name(), house.name_at(heir(ELDEST, house.family)))
        self.assertEqual([house.way_of(name) for name in house.claim_names(9)], list(claims(ELDEST, house.family, 9)))
        self.assertEqual(house.family, short(house.family))
        self.assertEqual(heir_in(ELDEST, house.family), (0,))


if __name__ == "__main__":
    unittest.main()
