"""Which ranks and stands of a custom are reached, and by which least lines and rows."""

from heirlines.checks import is_whole
from heirlines.customs import need_custom
from heirlines.errors import BadNumber
from heirlines.search import TableSearch


def reached_ranks(custom):
    """The ascending numbers of the ranks that are reached."""
    return tuple(sorted(list(TableSearch(need_custom(custom)).lines)))


def reached_stands(custom):
    """The ascending numbers of the stands that are reached."""
    return tuple(sorted(list(TableSearch(need_custom(custom)).rows)))


def need_rank(custom, rank):
    """The search of a custom, or BadNumber if it doesn't reach the rank."""
    search = TableSearch(need_custom(custom))
    if not is_whole(rank) or rank not in search.lines:
        raise BadNumber(rank)
    return search


def need_stand(custom, stand):
    """The search of a custom, or BadNumber if it doesn't reach the stand."""
    search = TableSearch(need_custom(custom))
    if not is_whole(stand) or stand not in search.rows:
        raise BadNumber(stand)
    return search


def line_for(custom, rank):
    """A least line of the rank."""
    return need_rank(custom, rank).family(rank)


def line_size(custom, rank):
    """How many members a least line of the rank has."""
    return need_rank(custom, rank).size_of_line(rank)


def row_for(custom, stand):
    """A least row of the stand."""
    return need_stand(custom, stand).row_families(stand)


def row_size(custom, stand):
    """How many members a least row of the stand has together."""
    return need_stand(custom, stand).rows[stand][0]


def needed_stands(custom, search):
    """For each reached stand whether the claimant that is held there can come to be heir."""
    # that claimant is heir as soon as some founder picks what is still held
    needed = {stand: picks_line(custom, stand) for stand in search.rows}
    is_new = True
    while is_new:
        is_new = False
        for stand in search.rows:
            if not needed[stand] and any([leads_on(custom, stand, rank, needed) for rank in search.lines]):
                needed[stand] = True
                is_new = True
    return needed


def picks_line(custom, stand):
    """Whether some member with this stand picks the claimant that is held."""
    return any([cells[stand][1] == "line" for pair in custom[4] for cells in pair])


def leads_on(custom, stand, rank, needed):
    """Whether a child with this rank leaves the claimant that is held, at a stand that is needed."""
    next_stand, keep = custom[3][stand][rank]
    return keep == "old" and needed[next_stand]


def is_needed(custom, stand):
    """Whether the claimant that is held at the stand can come to be heir."""
    return needed_stands(custom, need_stand(custom, stand))[stand]
