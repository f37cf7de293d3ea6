"""Who surely comes next, and papers on what can come by few deeds."""

from heirlines.checks import need_between
from heirlines.errors import BadPaper
from heirlines.futures import is_led, many_deeds
from heirlines.lines import is_told
from heirlines.papers import Given, bound_of, is_bound
from heirlines.readings import heir_in, read_lines
from heirlines.scales import Asked, Chance
from heirlines.twofold import Twofold
from heirlines.wishes import are_kept, is_granted, need_asked, need_chances

MOST_SURE = 10


class Sure:
    """The first members of the SURE LINE, and what sets the next claimant aside."""

    def __init__(self, custom, lines, many):
        top, reader = read_lines(custom, lines)
        self.ways = []
        # the chance that another one than the next claimant is heir, if there is one
        self.aside = None
        claimant = reader.heir_of(top)
        while claimant is not None and len(self.ways) < many and self.aside is None:
            terms = tuple([(way, "dead") for way in self.ways]) + ((claimant, "lives"),)
            chance = Chance(Asked(custom, lines, ("another", claimant), terms))
            if chance.fewest() is None:
                self.ways.append(claimant)
                top = reader.shelf.dead_at(top, claimant)
                claimant = reader.heir_of(top)
            else:
                self.aside = chance


def sure(custom, family, many):
    """The SURE LINE of the family, as far as it is asked for."""
    lines = need_chances(custom, family)
    need_between(many, 1, MOST_SURE)
    return Sure(custom, lines, many)


def sure_line(custom, family, many):
    """The first many members of the SURE LINE."""
    return tuple(sure(custom, family, many).ways)


def set_aside(custom, family, many):
    """By how few deeds the one behind the SURE LINE is set aside, and a future; or None."""
    chance = sure(custom, family, many).aside
    return None if chance is None else (chance.fewest(), chance.future())


def paper_for(custom, family, wish, terms=()):
    """A PAPER with a fewest future, or one that shows that there is none."""
    lines = need_asked(custom, family, wish, terms)
    chance = Chance(Asked(custom, lines, wish, terms))
    later = chance.future()
    return bound_of(chance) if later is None else ("future", later)


def bound_for(custom, family, wish, terms=()):
    """A right bound whose number is the FEWEST."""
    lines = need_asked(custom, family, wish, terms)
    return bound_of(Chance(Asked(custom, lines, wish, terms)))


def check_chance(custom, family, wish, terms, paper):
    """What a right PAPER shows: a future by so many deeds, or a bound."""
    lines = need_asked(custom, family, wish, terms)
    asked = Asked(custom, lines, wish, terms)
    if not isinstance(paper, tuple) or len(paper) == 0:
        raise BadPaper("form")
    if paper[0] == "future" and len(paper) == 2 and is_told(paper[1], custom[0]):
        word = future_fault(asked, terms, paper[1])
        told = ("future", many_deeds(lines, paper[1]))
    elif is_bound(asked, paper):
        word = Given(asked, paper).fault()
        told = paper[:2]
    else:
        word, told = "form", None
    if word is not None:
        raise BadPaper(word)
    return told


def future_fault(asked, terms, later):
    """The word that tells what is wrong with a future, or None."""
    twofold = Twofold(asked.lines, later)
    if not is_led(twofold):
        return "later"
    if not are_kept(twofold, terms):
        return "terms"
    return None if is_granted(asked.lines, asked.wish, heir_in(asked.custom, later)) else "wish"
