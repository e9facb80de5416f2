"""First and second solutions of all sides, optima and reduced prices."""

from tallyhull.boxes import boxes_by, first_by_boxes, first_in
from tallyhull.linear import columns_of, dot, fits, less
from tallyhull.matrices import check_asked, check_cost, check_pointed
from tallyhull.moves import check_solution, first_standing, way_down
from tallyhull.staircases import corners
from tallyhull.testsets import least_test_set, listed_moves


def check_start(matrix, cost, vector):
    """Raise the error for what is wrong first of a matrix, a cost and a solution."""
    check_pointed(matrix)
    check_cost(matrix, cost)
    check_solution(matrix, vector)


def is_first(matrix, cost, vector):
    """Return whether a solution is the first one of its side."""
    check_start(matrix, cost, vector)
    return first_standing(least_test_set(matrix, cost), vector) is None


def first_from(matrix, cost, vector):
    """Return the first solution of the image of a solution."""
    check_start(matrix, cost, vector)
    return way_down(least_test_set(matrix, cost), vector)[0]


def first_solution(matrix, cost, side):
    """Return the first solution of a side, or None if it has none."""
    return first_by_boxes(matrix, cost, side)


def optimum(matrix, cost, side):
    """Return the optimum of a side, or None if it has no solution."""
    found = first_solution(matrix, cost, side)
    return None if found is None else dot(cost, found)


def reduced_prices(matrix, cost, side):
    """Return the tuple of the reduced prices of all columns, or None for no solution."""
    check_asked(matrix, cost, side)
    listed = boxes_by(corners(matrix, cost), len(matrix[0]))
    found = first_in(matrix, listed, side)
    if found is None:
        return None
    # A side plus a column has a solution, as the side has one.
    sums = [less(side, -1, column) for column in columns_of(matrix)]
    return tuple(dot(cost, first_in(matrix, listed, total)) - dot(cost, found) - entry
                 for total, entry in zip(sums, cost))


def rivals_of(cost, moves, first):
    """Return the list of what moves, backwards, lead to from a first solution, in their order."""
    found = [less(less(first, 1, tail), -1, head) for head, tail in moves if fits(tail, first)]
    return sorted(found, key=lambda vector: (dot(cost, vector), vector))


def rivals(matrix, cost, side):
    """Return the list of the rivals of a side, or None if it has no solution."""
    first = first_solution(matrix, cost, side)
    return None if first is None else rivals_of(cost, listed_moves(matrix, cost), first)


def second_solution(matrix, cost, side):
    """Return the second solution of a side, or None if there are not two."""
    found = rivals(matrix, cost, side)
    return found[0] if found else None
