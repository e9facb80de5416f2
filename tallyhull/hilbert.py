"""Hilbert lists: the least sides of the cone and of the lattice of a pointed matrix."""

from tallyhull.errors import NoAnswer
from tallyhull.holes import fundamental_holes, is_between, products_with
from tallyhull.linear import columns_of, dot, facets_of, fits, less
from tallyhull.matrices import check_pointed, check_side, is_matrix


def is_full(matrix, side):
    """Return whether a side is full."""
    check_pointed(matrix)
    check_side(matrix, side)
    return is_between(matrix, side)


def height_of(pair):
    """Return the sum of the heights that the first entry of a pair tells."""
    return sum(pair[0])


def hilbert_list(matrix):
    """Return the Hilbert list."""
    every = {side: True for side in fundamental_holes(matrix) + columns_of(matrix)}
    rows = facets_of(matrix)
    told = sorted([(products_with(rows, side), side) for side in every], key=height_of)
    found = []
    # One of them less another one is full if it is nowhere less, by the facets: then it is
    # higher. And if it is no least one, one of the least ones can be taken from it.
    for heights, side in told:
        if not any(fits(others, heights) for others, _ in found):
            found.append((heights, side))
    return sorted([side for _, side in found])


def missing_sides(matrix):
    """Return the ascending list of the missing sides."""
    return [side for side in hilbert_list(matrix) if side not in columns_of(matrix)]


def spare_columns(matrix):
    """Return the ascending list of the indexes of the spare columns."""
    least = hilbert_list(matrix)
    every = columns_of(matrix)
    return [k for k, column in enumerate(every) if column not in least or column in every[:k]]


def is_least_side(matrix, side):
    """Return whether a side is full and least."""
    check_pointed(matrix)
    check_side(matrix, side)
    return side in hilbert_list(matrix)


def full_sum(matrix, side):
    """Return a list of pairs of a least side and how often it is taken that add up to a full one."""
    check_pointed(matrix)
    check_side(matrix, side)
    least = hilbert_list(matrix)
    if not is_between(matrix, side):
        raise NoAnswer("the side is not full")
    rows = facets_of(matrix)
    found = []
    left = side
    # What cannot be taken once more cannot be taken later: one round is enough.
    for part in least:
        told = [(dot(row, left), dot(row, part)) for row in rows]
        times = min([have // want for have, want in told if want > 0])
        if times > 0:
            found.append((part, times))
            left = less(left, times, part)
    return found


def is_hilbert_paper(matrix, sides):
    """Return whether a list of sides is a Hilbert paper."""
    check_pointed(matrix)
    for side in sides:
        check_side(matrix, side)
    # Each Hilbert paper contains all least sides, and with these alone it is one.
    if any(side not in sides for side in hilbert_list(matrix)):
        return False
    return all(is_between(matrix, side) for side in sides)


def with_missing(matrix):
    """Return the matrix with the missing sides as further columns behind its own."""
    every = columns_of(matrix) + missing_sides(matrix)
    found = tuple(zip(*every))
    if not is_matrix(found):
        raise NoAnswer("with the missing sides this is no matrix")
    return found
