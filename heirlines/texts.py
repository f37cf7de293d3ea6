"""Families, customs, rules, deals and stories as texts."""

from heirlines.customs import need_custom
from heirlines.deals import need_deal
from heirlines.deeds import MOST_DEEDS, need_any_deed
from heirlines.errors import BadDeed, BadStory, BadWay
from heirlines.lettering import name_for
from heirlines.rules import need_rule
from heirlines.shorts import short
from heirlines.ways import is_any_way
from heirlines.words import held_words, life_word, way_word, who_word

NO_DEEDS = "nothing"


def text_of(rows):
    """The text of rows of words; numbers are words, too."""
    return "\n".join([" ".join([str(word) for word in row]) for row in rows])


def pair_words(cells):
    """The words of pairs, one behind the other."""
    words = []
    for first, second in cells:
        words += [first, second]
    return words


def family_text(family):
    """The text of a FAMILY."""
    rows = []
    for number, (mark, is_alive, children) in enumerate(short(family)):
        rows.append([name_for(number), mark, life_word(is_alive)] + [name_for(child) for child in children])
    return text_of(rows)


def closing_rows(close):
    """The rows of CLOSE of a custom or a deal."""
    rows = []
    for dead, living in close:
        rows += [["dead"] + pair_words(dead), ["living"] + pair_words(living)]
    return rows


def custom_text(custom):
    """The text of a CUSTOM."""
    marks, stands, ranks, read, close = need_custom(custom)
    rows = [["marks", marks], ["stands"] + held_words(stands), ["ranks"] + held_words(ranks)]
    rows += [["read"] + pair_words(row) for row in read]
    return text_of(rows + closing_rows(close))


def rule_text(rule):
    """The text of a RULE."""
    marks, living, dead, groups = need_rule(rule)
    rows = [["marks", marks], ["living"] + list(living), ["dead"] + ["yes" if is_led else "no" for is_led in dead]]
    rows += [[side] + pair_words(kinds) for side, kinds in groups]
    return text_of(rows)


def deal_text(deal):
    """The text of a DEAL."""
    marks, weights, read, close = need_deal(deal)
    rows = [["marks", marks], ["weights"] + list(weights), ["stands", len(read)]]
    rows += [["read"] + list(row) for row in read]
    return text_of(rows + closing_rows(close))


def is_any_deed(value):
    """Whether a value may be a DEED in some family."""
    try:
        need_any_deed(value)
    except BadDeed:
        return False
    return True


def deed_words(deed):
    """The words of a DEED."""
    return [deed[0], way_word(deed[1])] + list(deed[2:])


def story_text(story):
    """The text of a STORY."""
    if not isinstance(story, tuple) or len(story) > MOST_DEEDS:
        raise BadStory(None)
    for number, deed in enumerate(story):
        if not is_any_deed(deed):
            raise BadStory(number)
    return text_of([deed_words(deed) for deed in story]) if story else NO_DEEDS


def who_text(way):
    """The word of a WAY, or of nobody."""
    if way is not None and not is_any_way(way):
        raise BadWay(way)
    return who_word(way)
