"""Single words of texts: numbers, lives and ways."""

from heirlines.lettering import NOBODY
from heirlines.lines import MOST_CHILDREN, MOST_LINES

FIGURES = "0123456789"
MOST_FIGURES = 9
FOUNDER = "founder"
LIVES = {"dead": False, "living": True}
HELD = {"none": False, "held": True}


def number_of_word(word):
    """The number from 0 that a word tells, with at most nine figures; None if it tells none."""
    if not 1 <= len(word) <= MOST_FIGURES or not all([figure in FIGURES for figure in word]):
        return None
    return None if word[0] == "0" and word != "0" else int(word)


def is_number_word(word, low, high):
    """Whether a word tells an integer from low to high."""
    number = number_of_word(word)
    return number is not None and low <= number <= high


def life_word(is_alive):
    """The word for whether a member lives."""
    return "living" if is_alive else "dead"


def held_words(holds):
    """The words for whether claimants are held."""
    return ["held" if is_held else "none" for is_held in holds]


def way_word(way):
    """The word for a WAY."""
    return FOUNDER if way == () else ".".join([str(place) for place in way])


def who_word(way):
    """The word for a WAY, or for nobody."""
    return NOBODY if way is None else way_word(way)


def way_of_word(word):
    """The WAY that a word tells; None if it tells none."""
    if word == FOUNDER:
        return ()
    places = [number_of_word(part) for part in word.split(".")]
    if len(places) >= MOST_LINES or any([place is None or place >= MOST_CHILDREN for place in places]):
        return None
    return tuple(places)


def is_way_word(word):
    """Whether a word tells a WAY."""
    return way_of_word(word) is not None


def is_who_word(word):
    """Whether a word tells a WAY, or nobody."""
    return word == NOBODY or is_way_word(word)


def who_of_word(word):
    """The WAY that a word tells, None of nobody."""
    return None if word == NOBODY else way_of_word(word)


def name_word(name):
    """The word for a member with a name, or for nobody."""
    return NOBODY if name is None else name
