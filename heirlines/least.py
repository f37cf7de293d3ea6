"""The least custom that names the same heirs."""

from heirlines.customs import need_custom
from heirlines.likes import LeastTable, Likes, members_of


def least_custom(custom):
    """The LEAST CUSTOM."""
    return LeastTable(Likes(need_custom(custom))).as_custom()


def led_numbers(custom):
    """The number of each stand, and of each rank, in the LEAST CUSTOM; None if it isn't reached."""
    likes = Likes(need_custom(custom))
    table = LeastTable(likes)
    stands = [table.stands[likes.stands[at]] if at in likes.stands else None for at in range(len(custom[1]))]
    ranks = [table.ranks[likes.ranks[at]] if at in likes.ranks else None for at in range(len(custom[2]))]
    return tuple(stands), tuple(ranks)


def size_of(custom):
    """How many stands and how many ranks the LEAST CUSTOM has."""
    stands, ranks = like_lots(custom)
    return len(stands), len(ranks)


def like_lots(custom):
    """The lots of LIKE stands, and those of LIKE ranks."""
    likes = Likes(need_custom(custom))
    return members_of(likes.stands), members_of(likes.ranks)
