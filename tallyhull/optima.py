"""Fraction optima of all sides, and papers that show them."""

from itertools import combinations

from tallyhull.errors import NoAnswer
from tallyhull.farkas import columns_at, is_fraction_solution
from tallyhull.linear import dot, is_in_cone_of, lowest, scaled_up, shares_of
from tallyhull.matrices import check_asked
from tallyhull.posts import foot_of, is_row_below, posts_of, scaled_rows


def heights_at(rows, side):
    """Return the products of rows of fractions with a side, over one positive integer."""
    entries, common = scaled_rows(rows)
    return [dot(row, side) for row in entries], common


def optimum_by(rows, side):
    """Return the fraction optimum of a side of the cone by the posts."""
    heights, common = heights_at(rows, side)
    return lowest(max(heights), common)


def fraction_optimum(matrix, cost, side):
    """Return the fraction optimum of a side, or None if it is not in the cone."""
    check_asked(matrix, cost, side)
    if not is_in_cone_of(matrix, side):
        return None
    return optimum_by(posts_of(matrix, cost), side)


def greatest_at(rows, side):
    """Return the list of the indexes of the rows of fractions with the greatest product."""
    heights, _ = heights_at(rows, side)
    best = max(heights)
    return [at for at, height in enumerate(heights) if height == best]


def posts_at(matrix, cost, side):
    """Return the list of the indexes of the posts that tell the fraction optimum of a side."""
    check_asked(matrix, cost, side)
    if not is_in_cone_of(matrix, side):
        raise NoAnswer("the side is not in the cone")
    return greatest_at(posts_of(matrix, cost), side)


def solution_at(matrix, foot, side):
    """Return a fraction solution of a side by columns of a foot alone, or None."""
    every = list(foot)
    for size in range(len(every) + 1):
        for places in combinations(every, size):
            shares = shares_of(columns_at(matrix, places), side)
            if shares is not None and all(pair[0] >= 0 for pair in shares):
                told = dict(zip(places, shares))
                return tuple(told.get(k, (0, 1)) for k in range(len(matrix[0])))
    return None


def optimum_paper(matrix, cost, side):
    """Return an optimum paper of a side, or None if it is not in the cone."""
    check_asked(matrix, cost, side)
    if not is_in_cone_of(matrix, side):
        return None
    rows = posts_of(matrix, cost)
    row = rows[greatest_at(rows, side)[0]]
    return solution_at(matrix, foot_of(matrix, cost, row), side), row


def is_optimum_paper(matrix, cost, side, paper):
    """Return whether a pair of tuples of pairs of integers is an optimum paper of a side."""
    check_asked(matrix, cost, side)
    if len(paper) != 2:
        return False
    numbers, row = paper
    if not is_fraction_solution(matrix, side, numbers) or not is_row_below(matrix, cost, row):
        return False
    shares, below = scaled_up(numbers)
    entries, common = scaled_up(row)
    return dot(cost, shares) * common == dot(entries, side) * below
