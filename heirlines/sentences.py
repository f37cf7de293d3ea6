"""Sentences on two customs, and whether they hold for all families."""

from heirlines.checks import is_between
from heirlines.customs import same_marks
from heirlines.errors import BadSentence
from heirlines.lines import need_lines
from heirlines.relations import RELATIONS
from heirlines.viewing import Views
from heirlines.views import seen_in

MOST_PARTS = 60
MOST_POSITIONS = 19
WHICH = ("first", "second")
# how many sentences stand in one that begins with the word
JOINERS = {"not": 1, "and": 2, "or": 2}


def is_part(value):
    """Whether a value is a sentence, whatever stands at the places of the sentences in it."""
    if not isinstance(value, tuple) or len(value) == 0 or not isinstance(value[0], str):
        return False
    if value[0] in JOINERS:
        return len(value) == JOINERS[value[0]] + 1
    if value[0] == "relation":
        return len(value) == 2 and value[1] in RELATIONS
    if value[0] == "mark":
        return len(value) == 3 and value[1] in WHICH and is_between(value[2], 0, 2)
    return value[0] == "founder" and len(value) == 2 and value[1] in WHICH


def need_sentence(sentence):
    """Raise BadSentence with the place of the first part that is wrong."""
    waiting = [((), sentence)]
    many = 0
    while waiting:
        place, part = waiting.pop()
        many += 1
        if many > MOST_PARTS or len(place) > MOST_POSITIONS:
            raise BadSentence(())
        if not is_part(part):
            raise BadSentence(place)
        for position in reversed(range(1, JOINERS.get(part[0], 0) + 1)):
            waiting.append((place + (position,), part[position]))


def holds_at(sentence, view):
    """Whether a sentence holds in a family with this VIEW."""
    word = sentence[0]
    if word == "not":
        return not holds_at(sentence[1], view)
    if word == "and":
        return holds_at(sentence[1], view) and holds_at(sentence[2], view)
    if word == "or":
        return holds_at(sentence[1], view) or holds_at(sentence[2], view)
    if word == "relation":
        return view[0] == sentence[1]
    which = WHICH.index(sentence[1])
    if word == "mark":
        return view[1 + which] == sentence[2]
    return view[3 + which]


def holds_in(custom, other, sentence, family):
    """Whether the sentence holds in the family."""
    same_marks(custom, other)
    need_sentence(sentence)
    need_lines(family, custom[0])
    return holds_at(sentence, seen_in(custom, other, family))


def holds_always(custom, other, sentence):
    """Whether the sentence holds for all families."""
    return case_against(custom, other, sentence) is None


def case_against(custom, other, sentence):
    """A least family in which the sentence doesn't hold, or None."""
    same_marks(custom, other)
    need_sentence(sentence)
    shown = Views(custom, other)
    return shown.family([view for view in shown.least if not holds_at(sentence, view)])


def follows(custom, other, sentence, far_sentence):
    """Whether the second sentence holds in each family in which the first one does."""
    same_marks(custom, other)
    need_sentence(sentence)
    need_sentence(far_sentence)
    return all([holds_at(far_sentence, view) for view in Views(custom, other).least if holds_at(sentence, view)])
