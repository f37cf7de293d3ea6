"""The errors of the package, each with the things that it was made with."""


class HeirError(ValueError):
    """Any error of this package."""

    def __init__(self, *things):
        self.things = things


class BadFamily(HeirError):
    """No family; place is the number of the first wrong line, or None."""

    def __init__(self, place):
        super().__init__(place)
        self.place = place


class BadWay(HeirError):
    """No way of a member."""

    def __init__(self, way):
        super().__init__(way)
        self.way = way


class BadCustom(HeirError):
    """No custom; word tells the first part that is wrong."""

    def __init__(self, word):
        super().__init__(word)
        self.word = word


class BadMarks(HeirError):
    """Not the number of marks that was due."""

    def __init__(self, number):
        super().__init__(number)
        self.number = number


class BadRule(HeirError):
    """No rule; word tells the first part that is wrong."""

    def __init__(self, word):
        super().__init__(word)
        self.word = word


class BadDeal(HeirError):
    """No deal; word tells the first part that is wrong."""

    def __init__(self, word):
        super().__init__(word)
        self.word = word


class BadDeed(HeirError):
    """A deed that is none, or isn't possible."""

    def __init__(self, word):
        super().__init__(word)
        self.word = word


class BadStory(HeirError):
    """No story; place is the number of the first wrong deed, or None."""

    def __init__(self, place):
        super().__init__(place)
        self.place = place


class BadWish(HeirError):
    """No wish."""

    def __init__(self, word):
        super().__init__(word)
        self.word = word


class BadTerms(HeirError):
    """No terms; place is the number of the first wrong one, or None."""

    def __init__(self, place):
        super().__init__(place)
        self.place = place


class BadNumber(HeirError):
    """A value that can't stand where it was passed."""

    def __init__(self, value):
        super().__init__(value)
        self.value = value


class BadRoll(HeirError):
    """No roll; place is the number of the first wrong entry, or None."""

    def __init__(self, place):
        super().__init__(place)
        self.place = place


class BadSentence(HeirError):
    """No sentence or scheme; place is where it is wrong."""

    def __init__(self, place):
        super().__init__(place)
        self.place = place


class BadRow(HeirError):
    """No row of families; place is the number of the first wrong one, or None."""

    def __init__(self, place):
        super().__init__(place)
        self.place = place


class BadCases(HeirError):
    """No cases; place is the number of the first wrong one, or None."""

    def __init__(self, place):
        super().__init__(place)
        self.place = place


class BadPaper(HeirError):
    """A paper that doesn't show what it should."""

    def __init__(self, word):
        super().__init__(word)
        self.word = word


class BadWords(HeirError):
    """A text that can't be read, and where."""

    def __init__(self, line, word):
        super().__init__(line, word)
        self.line = line
        self.word = word


class BadName(HeirError):
    """No name, or not one that can stand there."""

    def __init__(self, name):
        super().__init__(name)
        self.name = name


class NothingBack(HeirError):
    """There is nothing that could be told or done."""

    def __init__(self):
        super().__init__()


class TooGreat(HeirError):
    """More than the told number."""

    def __init__(self, most):
        super().__init__(most)
        self.most = most
