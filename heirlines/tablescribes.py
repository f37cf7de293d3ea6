"""Texts of customs, rules and deals, read word by word."""

from heirlines.customs import MOST_STATES
from heirlines.deals import MOST_WEIGHT, TAKES
from heirlines.rules import HOWS, MOST_GROUPS, SIDES, WORDS, kinds_of
from heirlines.scribes import Scribe
from heirlines.words import HELD, is_number_word


class TableScribe(Scribe):
    """Takes the lines of a custom or a deal: some heads, then READ for each stand, then CLOSE for each mark."""

    def __init__(self, heads):
        self.heads = heads
        self.told = []
        self.marks = 0
        self.many_stands = 0
        self.many_ranks = 0
        self.read = []
        self.close = []

    def is_open(self):
        """Whether another line may follow."""
        return not self.is_whole()

    def is_whole(self):
        """Whether the text may end."""
        return self.marks > 0 and len(self.close) == 2 * self.marks

    def head(self):
        """The first word that is due."""
        if len(self.told) < len(self.heads):
            return self.heads[len(self.told)]
        if len(self.read) < self.many_stands:
            return "read"
        return "dead" if len(self.close) & 1 == 0 else "living"

    def may_stand(self, words, at):
        """Whether a word may stand."""
        head = self.head()
        if at == 0:
            return words[0] == head
        if head == "marks":
            return at == 1 and is_number_word(words[1], 1, 3)
        if head == "read":
            return self.may_be_read(words, at - 1)
        if head in ("dead", "living"):
            return self.may_be_closed(words, at - 1, head == "living")
        return self.may_be_head(words, at, head)

    def may_be_head(self, words, at, head):
        """Whether a word may stand behind a head of its own."""
        raise NotImplementedError("told by the classes below")

    def may_be_read(self, words, at):
        """Whether a word may stand in READ, at this place behind the head."""
        raise NotImplementedError("told by the classes below")

    def may_be_closed(self, words, at, is_alive):
        """Whether a word may stand in CLOSE, at this place behind the head."""
        raise NotImplementedError("told by the classes below")

    def may_end(self, words):
        """Whether the line may end."""
        head = self.head()
        if head == "marks":
            return len(words) == 2
        if head == "read":
            return len(words) == 1 + self.read_words()
        if head in ("dead", "living"):
            return len(words) == 1 + 2 * self.many_stands
        return len(words) >= 2 and self.may_end_head(words, head)

    def read_words(self):
        """How many words there are in READ behind the head."""
        raise NotImplementedError("told by the classes below")

    def may_end_head(self, words, head):
        """Whether the line of a head of its own may end."""
        raise NotImplementedError("told by the classes below")

    def take(self, words):
        """Take a line."""
        head = self.head()
        if head == "read":
            self.read.append(self.taken_read(words[1:]))
        elif head in ("dead", "living"):
            self.close.append(number_pairs(words[1:]))
        else:
            self.told.append(words[1:])
            if head == "marks":
                self.marks = int(words[1])
            else:
                self.take_head(words, head)

    def taken_read(self, words):
        """What a line of READ tells."""
        raise NotImplementedError("told by the classes below")

    def take_head(self, words, head):
        """Note what a head of its own tells."""
        raise NotImplementedError("told by the classes below")

    def closings(self):
        """CLOSE."""
        return tuple([(self.close[2 * mark], self.close[2 * mark + 1]) for mark in range(self.marks)])


def number_pairs(words):
    """Pairs of a number and a word."""
    return tuple([(int(words[2 * at]), words[2 * at + 1]) for at in range(len(words) // 2)])


class CustomScribe(TableScribe):
    """Takes the lines of a CUSTOM."""

    def __init__(self):
        super().__init__(("marks", "stands", "ranks"))
        self.stands = []
        self.ranks = []

    def may_be_head(self, words, at, head):
        """Whether a word may stand among stands or ranks."""
        if at > MOST_STATES or words[at] not in HELD:
            return False
        if head == "stands":
            return at > 1 or words[at] == "none"
        # the dead need a rank without a claimant
        return at < MOST_STATES or "none" in words[1:at + 1]

    def may_end_head(self, words, head):
        """Whether the line of stands or ranks may end."""
        return head == "stands" or "none" in words[1:]

    def take_head(self, words, head):
        """Note the stands or the ranks."""
        holds = [HELD[word] for word in words[1:]]
        if head == "stands":
            self.stands = holds
            self.many_stands = len(holds)
        else:
            self.ranks = holds
            self.many_ranks = len(holds)

    def read_words(self):
        """How many words there are in READ behind the head."""
        return 2 * self.many_ranks

    def taken_read(self, words):
        """What a line of READ tells."""
        return number_pairs(words)

    def may_be_read(self, words, at):
        """Whether a word may be a stand, or KEEP."""
        if at >= 2 * self.many_ranks:
            return False
        keeps = (["old"] if self.stands[len(self.read)] else []) + (["new"] if self.ranks[at // 2] else [])
        return may_be_cell(words, at, self.stands, keeps)

    def may_be_closed(self, words, at, is_alive):
        """Whether a word may be a rank, or PICK."""
        if at >= 2 * self.many_stands:
            return False
        picks = (["line"] if self.stands[at // 2] else []) + (["self"] if is_alive else [])
        return may_be_cell(words, at, self.ranks, picks)

    def thing(self):
        """The CUSTOM."""
        return self.marks, tuple(self.stands), tuple(self.ranks), tuple(self.read), self.closings()


def may_be_cell(words, at, holds, held_words):
    """Whether the word at this place behind the head may stand in a pair of a number and a word."""
    word = words[at + 1]
    if at & 1 == 0:
        return is_number_word(word, 0, len(holds) - 1) and (not holds[int(word)] or len(held_words) > 0)
    return word in held_words if holds[int(words[at])] else word == "none"


class DealScribe(TableScribe):
    """Takes the lines of a DEAL."""

    def __init__(self):
        super().__init__(("marks", "weights", "stands"))
        self.weights = ()

    def may_be_head(self, words, at, head):
        """Whether a word may stand among the weights, or as the number of stands."""
        if head == "weights":
            return at <= MOST_STATES and is_number_word(words[at], 0, MOST_WEIGHT)
        return at == 1 and is_number_word(words[at], 1, MOST_STATES)

    def may_end_head(self, words, head):
        """Whether the line may end."""
        return True

    def take_head(self, words, head):
        """Note the weights, or how many stands there are."""
        if head == "weights":
            self.weights = tuple([int(word) for word in words[1:]])
            self.many_ranks = len(self.weights)
        else:
            self.many_stands = int(words[1])

    def read_words(self):
        """How many words there are in READ behind the head."""
        return self.many_ranks

    def taken_read(self, words):
        """What a line of READ tells."""
        return tuple([int(word) for word in words])

    def may_be_read(self, words, at):
        """Whether a word may be a stand."""
        return at < self.many_ranks and is_number_word(words[at + 1], 0, self.many_stands - 1)

    def may_be_closed(self, words, at, is_alive):
        """Whether a word may be a rank, or TAKE."""
        if at >= 2 * self.many_stands:
            return False
        if at & 1 == 0:
            return is_number_word(words[at + 1], 0, self.many_ranks - 1)
        return words[at + 1] in TAKES or (is_alive and words[at + 1] == "self")

    def thing(self):
        """The DEAL."""
        return self.marks, self.weights, tuple(self.read), self.closings()


class RuleScribe(Scribe):
    """Takes the lines of a RULE."""

    def __init__(self):
        self.marks = 0
        self.living = ()
        self.dead = ()
        self.groups = []
        self.left = {}

    def is_open(self):
        """Whether another line may follow."""
        return not self.dead or (len(self.groups) < MOST_GROUPS and len(self.left) > 0)

    def is_whole(self):
        """Whether the text may end."""
        return len(self.dead) > 0

    def may_stand(self, words, at):
        """Whether a word may stand."""
        if self.marks == 0:
            return words[0] == "marks" if at == 0 else at == 1 and is_number_word(words[1], 1, 3)
        if not self.living:
            return words[0] == "living" if at == 0 else at <= self.marks and words[at] in WORDS
        if not self.dead:
            return words[0] == "dead" if at == 0 else at <= self.marks and words[at] in ("yes", "no")
        if at == 0:
            return words[0] in SIDES
        return self.may_be_kind(words, at)

    def may_be_kind(self, words, at):
        """Whether a word may be the mark of a kind that is left, or its HOW."""
        kinds = kinds_in(words[1:at])
        left = [kind for kind in self.left if not kinds or kind > kinds[-1]]
        if at & 1 == 1:
            return is_number_word(words[at], 0, 2) and any([kind[0] == int(words[at]) for kind in left])
        return words[at] in HOWS and (int(words[at - 1]), words[at]) in left

    def may_end(self, words):
        """Whether the line may end."""
        if self.marks == 0:
            return len(words) == 2
        if not self.dead:
            return len(words) == 1 + self.marks
        return len(words) >= 3 and len(words) & 1 == 1

    def take(self, words):
        """Take a line."""
        if self.marks == 0:
            self.marks = int(words[1])
            self.left = {kind: True for kind in kinds_of(self.marks)}
        elif not self.living:
            self.living = tuple(words[1:])
        elif not self.dead:
            self.dead = tuple([word == "yes" for word in words[1:]])
        else:
            kinds = kinds_in(words[1:])
            self.groups.append((words[0], kinds))
            self.left = {kind: True for kind in self.left if kind not in kinds}

    def thing(self):
        """The RULE."""
        return self.marks, self.living, self.dead, tuple(self.groups)


def kinds_in(words):
    """The kinds that words tell, but what is told by half."""
    return number_pairs(words)
