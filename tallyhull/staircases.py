"""First vectors, told by their corners: free index sets and cells."""

from itertools import combinations

from tallyhull.errors import BadNumber, NoAnswer
from tallyhull.farkas import columns_at
from tallyhull.linear import columns_of, rank_among, stairs_of, volume_of
from tallyhull.matrices import check_pointed
from tallyhull.signs import support
from tallyhull.testsets import least_test_set


def corners(matrix, cost):
    """Return the ascending list of the corners."""
    return [head for head, _ in least_test_set(matrix, cost)]


def check_places(matrix, places):
    """Raise BadNumber for what is no ascending tuple of indexes of columns."""
    if any(not 0 <= k < len(matrix[0]) for k in places):
        raise BadNumber("an index is that of no column")
    if any(a >= b for a, b in zip(places, places[1:])):
        raise BadNumber("the indexes do not ascend")


def is_without_corner(supports, places):
    """Return whether no corner has its entries other than 0 at these indexes alone."""
    return not any(all(k in places for k in told) for told in supports)


def is_free(matrix, cost, places):
    """Return whether a tuple of indexes is a free set."""
    supports = [support(corner) for corner in corners(matrix, cost)]
    check_places(matrix, places)
    return is_without_corner(supports, places)


def frees_by(found, many):
    """Return the list of all free sets by the corners, those with fewer indexes first."""
    supports = [support(corner) for corner in found]
    return [places for size in range(many + 1) for places in combinations(range(many), size)
            if is_without_corner(supports, places)]


def free_sets(matrix, cost):
    """Return the list of all free sets, those with fewer indexes first."""
    return frees_by(corners(matrix, cost), len(matrix[0]))


def cells(matrix, cost):
    """Return the ascending list of the cells."""
    size = rank_among(columns_of(matrix), len(matrix))
    # A free set that is in no other one has as many indexes as the rank, and none has more.
    return [places for places in free_sets(matrix, cost) if len(places) == size]


def cell_weight(matrix, places):
    """Return into how many classes the side lattice falls by the columns with some indexes."""
    check_pointed(matrix)
    check_places(matrix, places)
    basis = stairs_of(columns_of(matrix), len(matrix))
    chosen = stairs_of(columns_at(matrix, places), len(matrix))
    if not len(places) == len(chosen) == len(basis):
        raise NoAnswer("the columns are dependent, or not as many as the rank")
    return volume_of(chosen) // volume_of(basis)
