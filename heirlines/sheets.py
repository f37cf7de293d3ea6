"""Sheets, which tell things by name and then what holds of them."""

from heirlines.alike import are_alike
from heirlines.deeds import behind, reigns
from heirlines.errors import HeirError
from heirlines.heirs import MOST_CLAIMS, claims, heir
from heirlines.joining import joins
from heirlines.lasting import is_lasting
from heirlines.ruled import custom_of
from heirlines.scribes import read_text
from heirlines.shares import share
from heirlines.sheetscribe import SheetScribe
from heirlines.steady import is_steady
from heirlines.words import way_of_word, who_of_word


def sheet_entries(text):
    """All entries of a SHEET: sort, name and thing."""
    return read_text(text, SheetScribe()).thing()[0]


def judged(text):
    """For each verdict of a SHEET whether it is so."""
    entries, verdicts = read_text(text, SheetScribe()).thing()
    told = Told(entries)
    return tuple([told.is_so(verdict) for verdict in verdicts])


class Told:
    """The things of a SHEET by their names, and what verdicts say of them."""

    def __init__(self, entries):
        self.things = {(sort, name): thing for sort, name, thing in entries}
        self.sorts = {name: sort for sort, name, _ in entries}

    def named(self, sort, name):
        """The thing of this sort with this name, None if there is none."""
        return self.things.get((sort, name))

    def ruler(self, name):
        """The custom with this name, or one for the rule with this name; None if there is none."""
        if self.sorts.get(name) == "rule":
            return custom_of(self.named("rule", name))
        return self.named("custom", name)

    def is_so(self, verdict):
        """Whether a verdict is so; names that lack lead to errors, as None is no thing of any sort."""
        try:
            return self.holds(verdict[0], verdict[1:])
        except HeirError:
            return False

    def holds(self, word, rest):
        """Whether what a verdict says holds."""
        if word in ("heir", "claims", "heirs"):
            return self.holds_of_heirs(word, rest)
        if word == "alike":
            return are_alike(self.ruler(rest[0]), self.ruler(rest[1]))
        if word == "parts":
            family = self.named("family", rest[0])
            return heir(self.ruler(rest[1]), family) != heir(self.ruler(rest[2]), family)
        if word == "steady":
            return is_steady(self.ruler(rest[0]))
        if word == "lasting":
            return is_lasting(self.ruler(rest[0]))
        if word == "leads":
            first, story, second = rest
            later = behind(self.named("family", first), self.named("story", story))
            return later == self.named("family", second)
        if word == "joined":
            return joins(rest[3:], self.ruler(rest[0]), self.ruler(rest[1]), self.ruler(rest[2]))
        deal, family, way, part, whole = rest
        told = share(self.named("deal", deal), self.named("family", family), way_of_word(way))
        return told == (int(part), int(whole))

    def holds_of_heirs(self, word, rest):
        """Whether heirs, one behind the other, are those that a verdict tells."""
        custom = self.ruler(rest[0])
        family = self.named("family", rest[1])
        if word == "heir":
            return heir(custom, family) == who_of_word(rest[2])
        if word == "claims":
            return claims(custom, family, MOST_CLAIMS) == tuple([way_of_word(way) for way in rest[2:]])
        pairs = reigns(custom, family, self.named("story", rest[2]))
        return [way for way, _ in pairs] == [who_of_word(way) for way in rest[3:]]
