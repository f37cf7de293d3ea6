"""Plain walks from member to member, against which the package is checked."""

import fractions
import itertools
import random


class Member:
    """One member of a family that is told member by member."""

    def __init__(self, mark, is_alive, children):
        self.mark = mark
        self.is_alive = is_alive
        self.children = children


def grow(family, number=None):
    """The founder of a small family, all members one by one."""
    mark, is_alive, children = family[len(family) - 1 if number is None else number]
    return Member(mark, is_alive, [grow(family, child) for child in children])


def copied(member):
    return Member(member.mark, member.is_alive, [copied(child) for child in member.children])


def at(founder, way):
    for place in way:
        founder = founder.children[place]
    return founder


def ways_of(founder, way=()):
    """All ways, in the order of "first"."""
    found = [way]
    for place, child in enumerate(founder.children):
        found += ways_of(child, way + (place,))
    return found


def ways_last(founder, way=()):
    found = []
    for place, child in enumerate(founder.children):
        found += ways_last(child, way + (place,))
    return found + [way]


def nested(member):
    """A member's line as a nested tuple: alike exactly if they read alike."""
    return (member.mark, member.is_alive, tuple(nested(child) for child in member.children))


def unordered(member):
    return (member.mark, member.is_alive, tuple(sorted(unordered(child) for child in member.children)))


def tell(member):
    """The SHORT FORM, by the words of [12]."""
    lines, numbers = [], {}

    def finish(one):
        children = tuple(finish(child) for child in one.children)
        key = nested(one)
        if key not in numbers:
            numbers[key] = len(lines)
            lines.append((one.mark, one.is_alive, children))
        return numbers[key]

    finish(member)
    return tuple(lines)


def shapes(many):
    """All plane trees of so many members as nested tuples."""
    if many == 1:
        return [()]
    return [tuple(row) for row in rows_of_shapes(many - 1)]


def rows_of_shapes(many):
    if many == 0:
        return [()]
    found = []
    for first in range(1, many + 1):
        for shape in shapes(first):
            for rest in rows_of_shapes(many - first):
                found.append((shape,) + rest)
    return found


def filled(shape, looks):
    """The member of a shape, with marks and lives from an iterator."""
    mark, is_alive = next(looks)
    return Member(mark, is_alive, [filled(child, looks) for child in shape])


def all_members(many, marks):
    """All families of just so many members."""
    own = [(mark, is_alive) for mark in range(marks) for is_alive in (False, True)]
    for shape in shapes(many):
        for looks in itertools.product(own, repeat=many):
            yield filled(shape, iter(looks))


def all_families(most, marks):
    """All families of at most so many members, in SHORT FORM."""
    found = []
    for many in range(1, most + 1):
        found += [tell(member) for member in all_members(many, marks)]
    return found


def random_family(rng, lines=12, marks=3, most_children=4, alive=0.6):
    """Lines at random, some of them perhaps needless or told twice."""
    told = []
    for number in range(rng.randint(1, lines)):
        many = rng.randint(0, most_children) if number else 0
        children = tuple(rng.randrange(number) for _ in range(many))
        told.append((rng.randrange(marks), rng.random() < alive, children))
    return tuple(told)


def size_of(family):
    sizes = []
    for _, _, children in family:
        sizes.append(1 + sum(sizes[child] for child in children))
    return sizes[-1]


def small_families(seed, many, most=40, marks=3, lines=7):
    """So many random families of at most so many members."""
    rng = random.Random(seed)
    found = []
    while len(found) < many:
        family = random_family(rng, lines, marks)
        if size_of(family) <= most:
            found.append(family)
    return found


def great_family(seed, marks=3, alive=0.7, low=10 ** 20, spread=4, most_children=4):
    """A family that shares its lines, with somewhat more members than the bound."""
    rng = random.Random(seed)
    told = [(rng.randrange(marks), rng.random() < alive, ())]
    sizes = [1]
    while sizes[-1] < low:
        children = tuple(rng.randrange(max(0, len(told) - spread), len(told))
                         for _ in range(rng.randint(1, most_children)))
        told.append((rng.randrange(marks), rng.random() < alive, children))
        sizes.append(1 + sum(sizes[child] for child in children))
    return tuple(told)


def retold(family, seed):
    """The same family, told with lines twice, in another order, with needless lines."""
    rng = random.Random(seed)
    told, copies = [], {}
    for number, (mark, is_alive, children) in enumerate(family):
        copies[number] = []
        for _ in range(rng.randint(1, 2)):
            if rng.random() < 0.3:
                told.append((rng.randrange(3), rng.random() < 0.5, tuple(
                    rng.randrange(len(told)) for _ in range(rng.randint(0, 2)) if told)))
            told.append((mark, is_alive, tuple(rng.choice(copies[child]) for child in children)))
            copies[number].append(len(told) - 1)
    return tuple(told[:copies[len(family) - 1][-1] + 1])


def chain(many, mark=0, is_alive=True):
    """So many lines one below another."""
    return ((mark, is_alive, ()),) + tuple((mark, is_alive, (number,)) for number in range(many - 1))


def doubled(lines, mark=0):
    """A full tree of so many levels: 2 ** lines - 1 members."""
    return ((mark, True, ()),) + tuple((mark, True, (number, number)) for number in range(lines - 1))


def with_members(many):
    """A family of exactly so many members."""
    told = [(0, True, ())]
    parts = []
    bits = []
    while many > 0:
        bits.append(many % 2)
        many //= 2
    # the line number K has 2 ** (K + 1) - 1 members
    for _ in range(len(bits) - 1):
        told.append((0, True, (len(told) - 1, len(told) - 1)))
    left = sum(bit << place for place, bit in enumerate(bits)) - 1
    place = len(told) - 1
    while left > 0:
        size = (1 << (place + 1)) - 1
        while size <= left:
            parts.append(place)
            left -= size
        place -= 1
    told.append((0, True, tuple(parts)))
    return tuple(told)


def narrow(many):
    """A family of exactly so many members, with at most five children each."""
    sizes = [many]
    while sizes[-1] > 3:
        sizes.append((sizes[-1] - 1) // 3)
    told = [(0, True, ())]
    if sizes[-1] > 1:
        told.append((0, True, (0,) * (sizes[-1] - 1)))
    for size in sizes[-2::-1]:
        told.append((0, True, (len(told) - 1,) * 3 + (0,) * ((size - 1) % 3)))
    return tuple(told)


# customs, read from member to member


def read_member(custom, member):
    """(rank, the way of the claimant from this member, or None)"""
    marks, stands, ranks, read, close = custom
    stand, held = 0, None
    for place, child in enumerate(member.children):
        rank, claimant = read_member(custom, child)
        stand, keep = read[stand][rank]
        if keep == "new":
            held = (place,) + claimant
        elif keep == "none":
            held = None
    rank, pick = close[member.mark][1 if member.is_alive else 0][stand]
    return rank, {"self": (), "line": held, "none": None}[pick]


def heir_in(custom, founder):
    return read_member(custom, founder)[1]


def line_of_claim(custom, founder):
    """All CLAIMS, by killing the heir again and again."""
    founder = copied(founder)
    found = []
    heir = heir_in(custom, founder)
    while heir is not None:
        found.append(heir)
        at(founder, heir).is_alive = False
        heir = heir_in(custom, founder)
    return tuple(found)


def relation(first, second):
    """The RELATION of two claimants, by the words of [17]."""
    if first is None or second is None:
        return {(True, True): "none", (False, True): "first", (True, False): "second"}[first is None, second is None]
    if first == second:
        return "same"
    if second[:len(first)] == first:
        return "above"
    if first[:len(second)] == second:
        return "below"
    return "elder" if first < second else "younger"


def random_custom(rng, marks=1, most=4):
    """A custom at random."""
    stands = (False,) + tuple(rng.random() < 0.7 for _ in range(rng.randint(0, most - 1)))
    ranks = tuple(rng.random() < 0.7 for _ in range(rng.randint(1, most)))

    def close_cell(stand, is_alive):
        cells = close_cells(stands, ranks, stand, is_alive)
        return rng.choice(cells) if cells else None

    read = tuple(tuple(rng.choice(read_cells(stands, ranks, stand, rank)) for rank in range(len(ranks)))
                 for stand in range(len(stands)))
    close = tuple(tuple(tuple(close_cell(stand, is_alive) for stand in range(len(stands)))
                        for is_alive in (False, True)) for _ in range(marks))
    if any(cell is None for pair in close for row in pair for cell in row):
        return random_custom(rng, marks, most)
    return (marks, stands, ranks, read, close)


def customs(seed, many, marks=1, most=4):
    rng = random.Random(seed)
    return [random_custom(rng, marks, most) for _ in range(many)]


# the custom of the example in [25]: the eldest child's line ahead, then itself no more
ELDEST = (1, (False, True), (False, True),
          (((0, "none"), (1, "new")), ((1, "old"), (1, "old"))),
          ((((0, "none"), (1, "line")), ((1, "self"), (1, "self"))),))
# the youngest child's line, living members ahead of nobody: they lead on what they hold
YOUNGEST = (1, (False, True), (False, True),
            (((0, "none"), (1, "new")), ((1, "old"), (1, "new"))),
            ((((0, "none"), (1, "line")), ((1, "self"), (1, "line"))),))
# nobody is ever heir
NOBODY = (1, (False,), (False,), (((0, "none"),),), ((((0, "none"),), ((0, "none"),)),))


# rules, from member to member


def rule_line(rule, member):
    """(the kind of the member's line or None, the claimant's way from it or None)"""
    marks, living, dead, groups = rule
    lines = [rule_line(rule, child) for child in member.children]
    row = None
    for side, kinds in groups:
        places = [place for place, (kind, _) in enumerate(lines) if kind in kinds]
        if places:
            place = places[0] if side == "eldest" else places[-1]
            row = (place,) + lines[place][1]
            break
    if not member.is_alive:
        claimant = row if dead[member.mark] else None
    elif living[member.mark] == "self":
        claimant = ()
    elif living[member.mark] == "last":
        claimant = () if row is None else row
    else:
        claimant = row if living[member.mark] == "line" else None
    if claimant is None:
        return None, None
    if claimant == ():
        return (member.mark, "self"), ()
    return (member.mark, "past" if member.is_alive else "late"), claimant


def rule_claims(rule, founder):
    """All claims as pairs (kind of the founder's line, claimant), by killing the heir."""
    founder = copied(founder)
    found = []
    kind, claimant = rule_line(rule, founder)
    while claimant is not None:
        found.append((kind, claimant))
        at(founder, claimant).is_alive = False
        kind, claimant = rule_line(rule, founder)
    return found


def random_rule(rng, marks=1, most=6):
    kinds = [(mark, how) for mark in range(marks) for how in ("late", "past", "self")]
    rng.shuffle(kinds)
    groups = []
    while kinds and len(groups) < most and rng.random() < 0.8:
        many = rng.randint(1, min(3, len(kinds)))
        groups.append((rng.choice(("eldest", "youngest")), tuple(sorted(kinds[:many]))))
        kinds = kinds[many:]
    living = tuple(rng.choice(("self", "last", "line", "none")) for _ in range(marks))
    dead = tuple(rng.random() < 0.6 for _ in range(marks))
    return (marks, living, dead, tuple(groups))


def rules(seed, many, marks=1):
    rng = random.Random(seed)
    return [random_rule(rng, marks) for _ in range(many)]


def all_groups(kinds):
    """All GROUPS of some of these kinds."""
    found = [()]
    for many in range(1, len(kinds) + 1):
        for chosen in itertools.combinations(kinds, many):
            left = [kind for kind in kinds if kind not in chosen]
            for side in ("eldest", "youngest"):
                found += [((side, chosen),) + rest for rest in all_groups(left)]
    return found


def all_rules():
    """All 888 rules of one mark."""
    return [(1, (word,), (is_led,), groups)
            for word in ("self", "last", "line", "none") for is_led in (False, True)
            for groups in all_groups([(0, "late"), (0, "past"), (0, "self")])]


def raised(call, *arguments, **named):
    """The class and the fields of what a call raises, None if it raises nothing."""
    try:
        call(*arguments, **named)
    except ValueError as error:
        fields = {name: value for name, value in vars(error).items() if name != "things"}
        return (type(error).__name__,) + tuple(fields.values())
    return None


# customs of all kinds


def read_cells(stands, ranks, stand, rank):
    """All cells that can stand in READ."""
    cells = []
    for behind, holds in enumerate(stands):
        if not holds:
            cells.append((behind, "none"))
        else:
            cells += [(behind, "old")] if stands[stand] else []
            cells += [(behind, "new")] if ranks[rank] else []
    return cells


def close_cells(stands, ranks, stand, is_alive):
    """All cells that can stand in CLOSE."""
    cells = []
    for rank, holds in enumerate(ranks):
        if not holds:
            cells.append((rank, "none"))
        else:
            cells += [(rank, "line")] if stands[stand] else []
            cells += [(rank, "self")] if is_alive else []
    return cells


def big_custom(rng, marks=3, stands=8, ranks=8, held=0.8):
    """A custom of just so many stands and ranks."""
    stands = (False,) + tuple(rng.random() < held for _ in range(stands - 1))
    ranks = tuple(rng.random() < held for _ in range(ranks))
    if all(ranks):
        ranks = (False,) + ranks[1:]
    read = tuple(tuple(rng.choice(read_cells(stands, ranks, stand, rank)) for rank in range(len(ranks)))
                 for stand in range(len(stands)))
    close = tuple(tuple(tuple(rng.choice(close_cells(stands, ranks, stand, is_alive)) for stand in range(len(stands)))
                        for is_alive in (False, True)) for _ in range(marks))
    return (marks, stands, ranks, read, close)


def big_customs(seed, many, marks=3, stands=8, ranks=8):
    rng = random.Random(seed)
    return [big_custom(rng, marks, stands, ranks) for _ in range(many)]


def all_customs(many_stands, many_ranks):
    """All customs of one mark of so many stands and ranks."""
    found = []
    for stands in itertools.product((False, True), repeat=many_stands - 1):
        stands = (False,) + stands
        for ranks in itertools.product((False, True), repeat=many_ranks):
            cells = [read_cells(stands, ranks, stand, rank)
                     for stand in range(many_stands) for rank in range(many_ranks)]
            cells += [close_cells(stands, ranks, stand, is_alive)
                      for is_alive in (False, True) for stand in range(many_stands)]
            for chosen in itertools.product(*cells):
                read = tuple(chosen[stand * many_ranks:(stand + 1) * many_ranks] for stand in range(many_stands))
                rest = chosen[many_stands * many_ranks:]
                found.append((1, stands, ranks, read, ((rest[:many_stands], rest[many_stands:]),)))
    return found


def with_place_changed(custom, rng):
    """The custom with another cell at one place, if there is one that can stand there."""
    marks, stands, ranks, read, close = custom
    stand = rng.randrange(len(stands))
    if rng.random() < 0.5:
        rank = rng.randrange(len(ranks))
        cell = rng.choice(read_cells(stands, ranks, stand, rank))
        row = read[stand][:rank] + (cell,) + read[stand][rank + 1:]
        return (marks, stands, ranks, read[:stand] + (row,) + read[stand + 1:], close)
    mark, life = rng.randrange(marks), rng.randrange(2)
    cell = rng.choice(close_cells(stands, ranks, stand, life == 1))
    row = close[mark][life][:stand] + (cell,) + close[mark][life][stand + 1:]
    pair = (row, close[mark][1]) if life == 0 else (close[mark][0], row)
    return (marks, stands, ranks, read, close[:mark] + (pair,) + close[mark + 1:])


def with_states_twice(custom, rng):
    """The custom with one stand and one rank told twice, each read to by turns."""
    marks, stands, ranks, read, close = custom
    stand, rank = rng.randrange(len(stands)), rng.randrange(len(ranks))
    more_stand, more_rank = len(stands), len(ranks)

    def other(number, first, second):
        return rng.choice((first, second)) if number == first else number

    rows = [row + (row[rank],) for row in read]
    rows.append(rows[stand])
    read = tuple(tuple((other(cell[0], stand, more_stand), cell[1]) for cell in row) for row in rows)
    close = tuple(tuple(tuple((other(cell[0], rank, more_rank), cell[1]) for cell in row + (row[stand],))
                        for row in pair) for pair in close)
    return (marks, stands + (stands[stand],), ranks + (ranks[rank],), read, close)


def with_turns(custom, rng):
    """A pair of turns by which the custom can be renumbered."""
    stands = list(range(1, len(custom[1])))
    ranks = list(range(len(custom[2])))
    rng.shuffle(stands)
    rng.shuffle(ranks)
    return (0,) + tuple(stands), tuple(ranks)


def count_stands(most, holds=True):
    """A dead founder with at least so many living children has the rank 1: the last of these is the claimant, or none.

    So two such customs part just in families in which a member has so many children.
    """
    held = (False,) * most + (holds,)
    keep = "new" if holds else "none"
    read = tuple(((stand, "none"), (stand + 1, keep if stand + 1 == most else "none"))
                 for stand in range(most)) + (((most, "old" if holds else "none"),) * 2,)
    dead = ((0, "none"),) * most + ((1, "line") if holds else (0, "none"),)
    return (1, held, (False, True), read, ((dead, ((1, "self"),) * (most + 1)),))


def random_story(rng, founder, many, marks=3):
    """Deeds that are possible, done to the members of a founder one by one."""
    story = []
    for _ in range(many):
        living = [way for way in ways_of(founder) if at(founder, way).is_alive]
        if not living:
            break
        way = rng.choice(living)
        if rng.random() < 0.5:
            story.append(("birth", way, rng.randrange(marks)))
            at(founder, way).children.append(Member(story[-1][2], True, []))
        else:
            story.append(("death", way))
            at(founder, way).is_alive = False
    return tuple(story)


# futures, deed by deed


def after_one(founder, marks):
    """All families behind one deed, told in SHORT FORM, one for each deed."""
    found = []
    for way in ways_of(founder):
        member = at(founder, way)
        if member.is_alive:
            member.is_alive = False
            found.append(tell(founder))
            member.is_alive = True
            for mark in range(marks):
                member.children.append(Member(mark, True, []))
                found.append(tell(founder))
                member.children.pop()
    return found


def futures_by_few(family, most, marks):
    """All futures by at most so many deeds: by how many, and by how many rows of deeds."""
    newest = {tell(grow(family)): 1}
    found = {one: (0, 1) for one in newest}
    for many in range(1, most + 1):
        behind = {}
        for one, rows in newest.items():
            for later in after_one(grow(one), marks):
                behind[later] = behind.get(later, 0) + rows
        found.update({later: (many, rows) for later, rows in behind.items()})
        newest = behind
    return found


# deals, member by member


def random_deal(rng, marks=1, stands=3, ranks=3, most=99):
    """A deal at random; some weights are 0."""
    weights = tuple(rng.choice((0, 1, 2, rng.randint(0, most))) for _ in range(ranks))
    read = tuple(tuple(rng.randrange(stands) for _ in range(ranks)) for _ in range(stands))
    words = (("lines", "lines", "lost"), ("lines", "self", "self", "lost"))
    close = tuple(tuple(tuple((rng.randrange(ranks), rng.choice(words[life])) for _ in range(stands))
                        for life in (0, 1)) for _ in range(marks))
    return (marks, weights, read, close)


def deals(seed, many, marks=1, stands=3, ranks=3):
    rng = random.Random(seed)
    return [random_deal(rng, marks, rng.randint(1, stands), rng.randint(1, ranks)) for _ in range(many)]


def dealt_member(deal, member):
    """(rank, take)"""
    stand = 0
    for child in member.children:
        stand = deal[2][stand][dealt_member(deal, child)[0]]
    return deal[3][member.mark][1 if member.is_alive else 0][stand]


def dealt(deal, member, part=fractions.Fraction(1), way=()):
    """What each member has, by ways."""
    take = dealt_member(deal, member)[1]
    found = {way: part if take == "self" else part * 0}
    weights = [deal[1][dealt_member(deal, child)[0]] for child in member.children]
    for place, child in enumerate(member.children):
        comes = part * weights[place] / sum(weights) if take == "lines" and sum(weights) else part * 0
        found.update(dealt(deal, child, comes, way + (place,)))
    return found


def members_by_line(family):
    """How many members read as each line, where it is needed."""
    many = [0] * len(family)
    many[-1] = 1
    for place in reversed(range(len(family))):
        for child in family[place][2]:
            many[child] += many[place]
    return many


# texts


RULE_WORDS = {}


def rule_words():
    """All beginnings of texts of rules of one mark, word by word, with line feeds as words between lines."""
    if not RULE_WORDS:
        for marks, living, dead, groups in all_rules():
            words = ["marks", str(marks), "\n", "living", living[0], "\n", "dead", "yes" if dead[0] else "no"]
            for side, kinds in groups:
                words += ["\n", side] + [str(word) for kind in kinds for word in kind]
            for many in range(len(words) + 1):
                RULE_WORDS.setdefault(tuple(words[:many]), many == len(words))
            RULE_WORDS[tuple(words)] = True
    return RULE_WORDS


def altered(text, rng, words):
    """A text with something wrong at it, perhaps: a word or a line changed, left out, told twice; cut."""
    lines = [line.split(" ") for line in text.split("\n")]
    line = rng.randrange(len(lines))
    place = rng.randrange(len(lines[line]))
    how = rng.randrange(9)
    if how < 2:
        lines[line][place] = rng.choice(words)
    elif how == 2:
        lines[line][place:place + 1] = []
    elif how == 3:
        lines[line][place:place] = [lines[line][place]]
    elif how == 4:
        lines[line][place] = rng.choice(("", "0" + lines[line][place], lines[line][place] + "x", "-1", "+1"))
    elif how == 5:
        lines[line:line + 1] = []
    elif how == 6:
        lines[line:line] = [list(lines[line])]
    elif how == 7:
        lines[line][place] = rng.choice(rng.choice(lines) or [""])
    told = "\n".join(" ".join(row) for row in lines)
    return told[:rng.randrange(len(told) + 1)] if how == 8 else told
