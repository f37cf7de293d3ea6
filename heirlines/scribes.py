"""Texts that are read word by word, so that the first word is told that can't stand."""

from heirlines.deeds import MOST_DEEDS
from heirlines.errors import BadWords
from heirlines.lettering import is_name
from heirlines.lines import MOST_CHILDREN, MOST_LINES, MOST_SMALL, need_family
from heirlines.shelf import Shelf, short_form
from heirlines.texts import NO_DEEDS
from heirlines.words import LIVES, is_number_word, is_way_word, way_of_word

# how many words there are in a line of a STORY
STORY_WORDS = {"birth": 3, "death": 2, "nothing": 1}


class Scribe:
    """Takes the lines of a text one by one; the classes below tell which ones.

    A word may stand if some text that can be read goes on so; the words ahead
    of it are known to stand rightly.
    """

    def is_open(self):
        """Whether another line may follow."""
        raise NotImplementedError("told by the classes below")

    def is_whole(self):
        """Whether the text may end."""
        raise NotImplementedError("told by the classes below")

    def may_stand(self, words, at):
        """Whether the word at this place may stand behind those ahead of it."""
        raise NotImplementedError("told by the classes below")

    def may_end(self, words):
        """Whether the line may end."""
        raise NotImplementedError("told by the classes below")

    def take(self, words):
        """Take a line that was found right."""
        raise NotImplementedError("told by the classes below")

    def thing(self):
        """What the lines tell, once the text may end."""
        raise NotImplementedError("told by the classes below")

    def wrong_word(self, words):
        """The place of the first word that can't stand in a further line; None if the line is right."""
        if not self.is_open():
            return 0
        for at in range(len(words)):
            if not self.may_stand(words, at):
                return at
        return None if self.may_end(words) else len(words)


def read_text(text, scribe):
    """Let the scribe take all lines of a text; return the scribe, or raise BadWords if it can't be read."""
    if not isinstance(text, str):
        raise BadWords(None, None)
    lines = text.split("\n")
    for number, line in enumerate(lines):
        words = line.split(" ")
        wrong = scribe.wrong_word(words)
        if wrong is not None:
            raise BadWords(number, wrong)
        scribe.take(words)
    if not scribe.is_whole():
        raise BadWords(len(lines), 0)
    return scribe


class FamilyScribe(Scribe):
    """Takes the lines of a FAMILY, with any unlike names."""

    def __init__(self):
        self.lines = []
        self.numbers = {}

    def is_open(self):
        """Whether another line may follow."""
        return len(self.lines) < MOST_LINES

    def is_whole(self):
        """Whether the text may end."""
        return len(self.lines) > 0

    def may_stand(self, words, at):
        """Whether a word may stand: a new name, a mark, a life, names that were told."""
        word = words[at]
        if at == 0:
            return is_name(word) and word not in self.numbers
        if at == 1:
            return is_number_word(word, 0, 2)
        if at == 2:
            return word in LIVES
        return at < MOST_CHILDREN + 3 and word in self.numbers

    def may_end(self, words):
        """Whether the line may end."""
        return len(words) >= 3

    def take(self, words):
        """Take a line."""
        children = tuple([self.numbers[word] for word in words[3:]])
        self.numbers[words[0]] = len(self.lines)
        self.lines.append((int(words[1]), LIVES[words[2]], children))

    def thing(self):
        """The FAMILY in SHORT FORM, unless it has too many members."""
        return short_form(need_family(tuple(self.lines)))


class StoryScribe(Scribe):
    """Takes the lines of a STORY."""

    def __init__(self):
        self.deeds = []
        self.is_nothing = False

    def is_open(self):
        """Whether another line may follow."""
        return not self.is_nothing and len(self.deeds) < MOST_DEEDS

    def is_whole(self):
        """Whether the text may end."""
        return self.is_nothing or len(self.deeds) > 0

    def may_stand(self, words, at):
        """Whether a word may stand: what happens, a way, a mark."""
        word = words[at]
        if at == 0:
            return word in STORY_WORDS and (word != NO_DEEDS or not self.deeds)
        if at == 1:
            return words[0] != NO_DEEDS and is_way_word(word)
        return at == 2 and words[0] == "birth" and is_number_word(word, 0, 2)

    def may_end(self, words):
        """Whether the line may end."""
        return len(words) > 0 and len(words) == STORY_WORDS[words[0]]

    def take(self, words):
        """Take a line."""
        if words[0] == NO_DEEDS:
            self.is_nothing = True
        elif words[0] == "birth":
            self.deeds.append(("birth", way_of_word(words[1]), int(words[2])))
        else:
            self.deeds.append(("death", way_of_word(words[1])))

    def thing(self):
        """The STORY."""
        return tuple(self.deeds)


class TreeScribe(Scribe):
    """Takes the lines of a TREE: members by ascending ways, each with its level."""

    def __init__(self):
        self.levels = []
        self.names = {}
        self.looks = []

    def is_open(self):
        """Whether another line may follow."""
        return len(self.levels) < MOST_SMALL

    def is_whole(self):
        """Whether the text may end."""
        return len(self.levels) > 0

    def may_stand(self, words, at):
        """Whether a word may stand: a level, a new name, a mark, a life."""
        word = words[at]
        if at == 0:
            return is_number_word(word, 1, self.levels[-1] + 1) if self.levels else word == "0"
        if at == 1:
            return is_name(word) and word not in self.names
        if at == 2:
            return is_number_word(word, 0, 2)
        return at == 3 and word in LIVES

    def may_end(self, words):
        """Whether the line may end."""
        return len(words) == 4

    def take(self, words):
        """Take a line."""
        self.levels.append(int(words[0]))
        self.names[words[1]] = True
        self.looks.append((int(words[2]), LIVES[words[3]]))

    def thing(self):
        """The TREE."""
        return family_of_levels(self.levels, self.looks), tuple(list(self.names))


def family_of_levels(levels, looks):
    """The SHORT FORM of a family whose members are told by ascending ways, with their levels, marks and lives."""
    shelf = Shelf()
    # for each level the lines of members whose parent is still to come, the youngest first
    waiting = [[] for _ in range(max(levels) + 2)]
    for level, (mark, is_alive) in reversed(list(zip(levels, looks))):
        children = tuple(waiting[level + 1][::-1])
        waiting[level + 1] = []
        waiting[level].append(shelf.keep(mark, is_alive, children))
    return shelf.short(waiting[0][0])
