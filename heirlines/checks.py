"""What plain values have to be, ahead of all that is done with them."""

from heirlines.errors import BadNumber

ORDERS = ("first", "last", "levels")


def is_whole(value):
    """Whether a value is an integer; truths are none."""
    return isinstance(value, int) and not isinstance(value, bool)


def is_truth(value):
    """Whether a value is True or False itself."""
    return value is True or value is False


def is_between(value, low, high):
    """Whether a value is an integer from low to high."""
    return is_whole(value) and low <= value <= high


def is_whole_row(value):
    """Whether a value is a tuple of integers."""
    return isinstance(value, tuple) and all([is_whole(item) for item in value])


def is_number_row(value, most, high):
    """Whether a value is a tuple of at most so many integers from 0 to high."""
    if not isinstance(value, tuple) or len(value) > most:
        return False
    return all([isinstance(item, int) and not isinstance(item, bool) and 0 <= item <= high for item in value])


def is_ascending(items):
    """Whether each item is greater than the one before it."""
    return all([items[at - 1] < items[at] for at in range(1, len(items))])


def is_who(value):
    """Whether a value is a WHO."""
    if not isinstance(value, tuple) or len(value) != 2:
        return False
    mark, is_alive = value
    return (mark is None or is_between(mark, 0, 2)) and (is_alive is None or is_truth(is_alive))


def need_between(value, low, high):
    """Raise BadNumber unless the value is an integer from low to high."""
    if not is_between(value, low, high):
        raise BadNumber(value)


def need_marks(marks):
    """Raise BadNumber unless this can be a number of marks."""
    need_between(marks, 1, 3)


def need_count(value):
    """Raise BadNumber unless the value is an integer of at least 0."""
    if not is_whole(value) or value < 0:
        raise BadNumber(value)


def need_truth(value):
    """Raise BadNumber unless the value is True or False."""
    if not is_truth(value):
        raise BadNumber(value)


def need_who(who):
    """Raise BadNumber unless this is a WHO."""
    if not is_who(who):
        raise BadNumber(who)


def need_order(order):
    """Raise BadNumber unless this is an ORDER."""
    if order not in ORDERS:
        raise BadNumber(order)
