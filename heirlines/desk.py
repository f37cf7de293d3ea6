"""A desk that answers lines."""

from heirlines.errors import HeirError
from heirlines.live import House
from heirlines.scribes import TreeScribe
from heirlines.tablescribes import CustomScribe
from heirlines.texts import NO_DEEDS, text_of
from heirlines.trees import text_of_tree
from heirlines.words import name_word, number_of_word

DONE = "done"
MORE = "more"
NO = "no"
CUSTOM = "custom"
HOUSE = "house"
END = "end"


def deed_of_words(words):
    """The named deed that words tell; one of no right form where they tell none."""
    if words[0] == "birth" and len(words) == 4:
        return words[0], words[1], words[2], number_of_word(words[3])
    return tuple(words)


class Desk:
    """Leads a house by lines."""

    def __init__(self):
        self.house = None
        # the newest custom; what is begun, and the scribe that takes its lines
        self.custom = None
        self.begun = None
        self.scribe = None

    def say(self, line):
        """The answer to a line, or to any other value."""
        words = line.split(" ") if isinstance(line, str) else []
        if self.begun is not None:
            return self.go_on(words)
        if words == [CUSTOM] or (words == [HOUSE] and self.custom is not None):
            self.begun = words[0]
            self.scribe = CustomScribe() if words == [CUSTOM] else TreeScribe()
            return MORE
        if not words or self.house is None:
            return NO
        try:
            answer = self.asked(words)
        except HeirError:
            return NO
        return answer

    def go_on(self, words):
        """The answer to a line behind the first one of what is begun."""
        begun = self.begun
        self.begun = None
        if begun == HOUSE and words == [END]:
            return self.set_up_house()
        if not words or self.scribe.wrong_word(words) is not None:
            return NO
        self.scribe.take(words)
        if begun == CUSTOM and self.scribe.is_whole():
            self.custom = self.scribe.thing()
            return DONE
        self.begun = begun
        return MORE

    def set_up_house(self):
        """The answer to the last line of a house."""
        if not self.scribe.is_whole():
            return NO
        family, names = self.scribe.thing()
        try:
            self.house = House(self.custom, family, names)
        except HeirError:
            return NO
        return DONE

    def asked(self, words):
        """The answer to words that the house can tell or do."""
        many = len(words)
        if words == ["heir"]:
            return name_word(self.house.heir_name())
        if words == ["tree"]:
            return text_of_tree(self.house.family, self.house.names)
        if words == ["record"]:
            return text_of(self.house.record) if self.house.record else NO_DEEDS
        if words == ["reigns"]:
            return text_of([(name_word(name), times) for name, times in self.house.named_reigns()])
        if words[0] == "claim" and many == 2:
            names = self.house.claim_names(number_of_word(words[1]))
            return " ".join(names) if names else name_word(None)
        if words[0] in ("birth", "death"):
            self.house.enter(deed_of_words(words))
        elif words[0] == "late" and many > 2:
            self.house.late(number_of_word(words[1]), deed_of_words(words[2:]))
        elif words[0] == "strike" and many == 2:
            self.house.strike(number_of_word(words[1]))
        elif words[0] == "undo" and many < 3:
            self.house.undo(steps=number_of_word((words + ["1"])[1]))
        elif words[0] == "again" and many < 3:
            self.house.again(steps=number_of_word((words + ["1"])[1]))
        else:
            return NO
        return DONE
