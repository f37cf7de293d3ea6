"""Texts that are read back to what they tell."""

from heirlines.scribes import FamilyScribe, StoryScribe, read_text
from heirlines.tablescribes import CustomScribe, DealScribe, RuleScribe


def parse_family(text):
    """The FAMILY that a text tells, in SHORT FORM."""
    return read_text(text, FamilyScribe()).thing()


def parse_custom(text):
    """The CUSTOM that a text tells."""
    return read_text(text, CustomScribe()).thing()


def parse_rule(text):
    """The RULE that a text tells."""
    return read_text(text, RuleScribe()).thing()


def parse_deal(text):
    """The DEAL that a text tells."""
    return read_text(text, DealScribe()).thing()


def parse_story(text):
    """The STORY that a text tells."""
    return read_text(text, StoryScribe()).thing()
