"""Names, which are numbers in letters, or any other short words."""

from heirlines.checks import need_between

LETTERS = "abcdefghijklmnopqrstuvwxyz"
MOST_NUMBER = 10 ** 6
MOST_LETTERS = 8
NOBODY = "nobody"


def name_for(number):
    """The NAME for a number."""
    need_between(number, 0, MOST_NUMBER)
    name = LETTERS[number % 26]
    while number >= 26:
        number //= 26
        name = LETTERS[number % 26] + name
    return name


def is_name(value):
    """Whether a value is a NAME."""
    if not isinstance(value, str) or not 1 <= len(value) <= MOST_LETTERS or value == NOBODY:
        return False
    return all([letter in LETTERS for letter in value])
