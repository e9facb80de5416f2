"""Papers for sides outside of the cone, and solutions with fractions for those in it."""

from itertools import combinations
from math import gcd

from tallyhull.cones import rank_of
from tallyhull.linear import columns_of, dot, equations_of, facets_of, holds, opposite_of
from tallyhull.linear import rank_among, shares_of
from tallyhull.matrices import check_pointed, check_side


def farkas_paper(matrix, side):
    """Return a Farkas paper of a side, or None."""
    check_pointed(matrix)
    check_side(matrix, side)
    for row in equations_of(matrix):
        if dot(row, side) > 0:
            return opposite_of(row)
        if dot(row, side) < 0:
            return row
    for row in facets_of(matrix):
        if dot(row, side) < 0:
            return row
    return None


def is_farkas_paper(matrix, side, row):
    """Return whether a tuple of integers is a Farkas paper of a side."""
    check_pointed(matrix)
    check_side(matrix, side)
    if len(row) != len(matrix):
        return False
    return holds(row, columns_of(matrix)) and dot(row, side) < 0


def columns_at(matrix, places):
    """Return the list of the columns with these indexes."""
    found = columns_of(matrix)
    return [found[k] for k in places]


def index_sets(matrix, size):
    """Return the ascending list of all ascending tuples of so many indexes of columns."""
    return list(combinations(range(len(matrix[0])), size))


def bases(matrix):
    """Return the ascending list of the bases."""
    check_pointed(matrix)
    size = rank_of(matrix)
    return [places for places in index_sets(matrix, size)
            if rank_among(columns_at(matrix, places), len(matrix)) == size]


def first_shares(matrix, side):
    """Return the first base of a side with its fractions there, or None outside of the cone."""
    for places in index_sets(matrix, rank_of(matrix)):
        shares = shares_of(columns_at(matrix, places), side)
        if shares is not None and all(pair[0] >= 0 for pair in shares):
            return places, shares
    return None


def first_base(matrix, side):
    """Return the first base of a side, or None if it is not in the cone."""
    check_pointed(matrix)
    check_side(matrix, side)
    found = first_shares(matrix, side)
    return None if found is None else found[0]


def fraction_solution(matrix, side):
    """Return the first fraction solution of a side, or None if it is not in the cone."""
    check_pointed(matrix)
    check_side(matrix, side)
    found = first_shares(matrix, side)
    if found is None:
        return None
    entries = dict(zip(found[0], found[1]))
    return tuple(entries.get(k, (0, 1)) for k in range(len(matrix[0])))


def is_lowest(pair):
    """Return whether a pair of integers is a fraction in lowest terms."""
    return len(pair) == 2 and pair[1] > 0 and gcd(pair[0], pair[1]) == 1


def adds_up(row, numbers, target):
    """Return whether the products of a row and fractions have this sum."""
    common = 1
    for _, below in numbers:
        common = common * below
    total = sum(entry * above * (common // below) for entry, (above, below) in zip(row, numbers))
    return total == target * common


def is_fraction_solution(matrix, side, numbers):
    """Return whether a tuple of pairs of integers is a fraction solution of a side."""
    check_pointed(matrix)
    check_side(matrix, side)
    if len(numbers) != len(matrix[0]):
        return False
    if not all(is_lowest(pair) and pair[0] >= 0 for pair in numbers):
        return False
    return all(adds_up(row, numbers, target) for row, target in zip(matrix, side))
