"""Sheets, read word by word: entries, which are texts with a name, then verdicts."""

from heirlines.lettering import is_name
from heirlines.schemes import ANY_PICK
from heirlines.scribes import FamilyScribe, Scribe, StoryScribe
from heirlines.tablescribes import CustomScribe, DealScribe, RuleScribe
from heirlines.words import is_way_word, is_who_word, number_of_word

SORTS = ("family", "custom", "rule", "deal", "story")
ENTRY_LINE = "-"
# for each verdict what its words are, then what any further ones are, how many there are at least and at most
VERDICTS = {
    "heir": (("name", "name", "who"), None, 0, 0),
    "claims": (("name", "name"), "way", 0, 99),
    "alike": (("name", "name"), None, 0, 0),
    "parts": (("name", "name", "name"), None, 0, 0),
    "steady": (("name",), None, 0, 0),
    "lasting": (("name",), None, 0, 0),
    "leads": (("name", "name", "name"), None, 0, 0),
    "heirs": (("name", "name", "name"), "who", 1, None),
    "joined": (("name", "name", "name"), "pick", 8, 8),
    "share": (("name", "name", "way", "number", "number"), None, 0, 0),
}


def is_word_of(sort, word):
    """Whether a word can stand in a verdict as one of this sort."""
    if sort == "name":
        return is_name(word)
    if sort == "way":
        return is_way_word(word)
    if sort == "who":
        return is_who_word(word)
    return word in ANY_PICK if sort == "pick" else number_of_word(word) is not None


def scribe_of(sort):
    """A scribe for the text of an entry."""
    if sort == "family":
        return FamilyScribe()
    if sort == "custom":
        return CustomScribe()
    if sort == "rule":
        return RuleScribe()
    return DealScribe() if sort == "deal" else StoryScribe()


class SheetScribe(Scribe):
    """Takes the lines of a SHEET."""

    def __init__(self):
        self.entries = []
        self.names = {}
        self.verdicts = []

    def is_open(self):
        """Whether another line may follow."""
        return True

    def is_between(self):
        """Whether no entry is begun that has to go on."""
        return not self.entries or self.entries[-1][2].is_whole()

    def is_whole(self):
        """Whether the text may end."""
        return self.is_between() and len(self.entries) + len(self.verdicts) > 0

    def may_go_on(self):
        """Whether the last entry may have a further line."""
        return len(self.entries) > 0 and not self.verdicts and self.entries[-1][2].is_open()

    def wrong_word(self, words):
        """The place of the first word that can't stand in a further line; None if the line is right."""
        if words[0] != ENTRY_LINE or not self.may_go_on():
            return super().wrong_word(words)
        wrong = self.entries[-1][2].wrong_word(words[1:])
        return None if wrong is None else wrong + 1

    def may_stand(self, words, at):
        """Whether the word at this place may stand behind those ahead of it, but in a line of an entry."""
        word = words[at]
        if at == 0:
            return self.is_between() and (word in VERDICTS or (word in SORTS and not self.verdicts))
        if words[0] in SORTS:
            return at == 1 and is_name(word) and word not in self.names
        sorts, further, _, most = VERDICTS[words[0]]
        if at <= len(sorts):
            return is_word_of(sorts[at - 1], word)
        if further is None or (most is not None and at > len(sorts) + most):
            return False
        return is_word_of(further, word)

    def may_end(self, words):
        """Whether the line may end, but one of an entry."""
        if words[0] in SORTS:
            return len(words) == 2
        sorts, _, least, _ = VERDICTS[words[0]]
        return len(words) >= 1 + len(sorts) + least

    def take(self, words):
        """Take a line."""
        if words[0] == ENTRY_LINE:
            self.entries[-1][2].take(words[1:])
        elif words[0] in SORTS:
            self.names[words[1]] = True
            self.entries.append((words[0], words[1], scribe_of(words[0])))
        else:
            self.verdicts.append(tuple(words))

    def thing(self):
        """The entries with what they tell, and the words of the verdicts."""
        told = tuple([(sort, name, scribe.thing()) for sort, name, scribe in self.entries])
        return told, tuple(self.verdicts)
