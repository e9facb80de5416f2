"""Matrices, their sides, vectors and costs, and whether a matrix is pointed."""

from itertools import combinations

from tallyhull.errors import NotCost, NotMatrix, NotPointed, NotSide, NotVector
from tallyhull.linear import columns_of, dot, facets_of, image_of, is_before, lone_at, primitive

MOST_ROWS = 3
MOST_COLUMNS = 6
ENTRY_LIMIT = 9
SIDE_LIMIT = 1000000
COST_LIMIT = 50


def has_integers(row, many):
    """Return whether something is a tuple of so many integers."""
    if not isinstance(row, tuple) or len(row) != many:
        return False
    return all(isinstance(entry, int) and not isinstance(entry, bool) for entry in row)


def has_bounded(row, many, limit):
    """Return whether something is a tuple of so many integers, none beyond the limit."""
    return has_integers(row, many) and all(-limit <= entry <= limit for entry in row)


def is_matrix(matrix):
    """Return whether a tuple of tuples of integers is a matrix."""
    if not isinstance(matrix, tuple) or not 1 <= len(matrix) <= MOST_ROWS:
        return False
    if not isinstance(matrix[0], tuple) or not 1 <= len(matrix[0]) <= MOST_COLUMNS:
        return False
    many = len(matrix[0])
    return all(has_bounded(row, many, ENTRY_LIMIT) for row in matrix)


def check_matrix(matrix):
    """Raise NotMatrix for what is no matrix."""
    if not is_matrix(matrix):
        raise NotMatrix("a matrix has 1 to 3 rows of 1 to 6 integers from -9 to 9")


def is_side(matrix, side):
    """Return whether a tuple of integers is a side of the matrix."""
    check_matrix(matrix)
    return has_bounded(side, len(matrix), SIDE_LIMIT)


def check_side(matrix, side):
    """Raise NotSide for what is no side."""
    if not is_side(matrix, side):
        raise NotSide("a side has an integer from -1000000 to 1000000 for each row")


def is_vector(matrix, vector):
    """Return whether a tuple of integers is a vector of the matrix."""
    check_matrix(matrix)
    return has_integers(vector, len(matrix[0]))


def check_vector(matrix, vector):
    """Raise NotVector for what is no vector."""
    if not is_vector(matrix, vector):
        raise NotVector("a vector has an integer for each column")


def is_cost(matrix, cost):
    """Return whether a tuple of integers is a cost of the matrix."""
    check_matrix(matrix)
    return has_bounded(cost, len(matrix[0]), COST_LIMIT)


def check_cost(matrix, cost):
    """Raise NotCost for what is no cost."""
    if not is_cost(matrix, cost):
        raise NotCost("a cost has an integer from -50 to 50 for each column")


def columns(matrix):
    """Return the list of the columns."""
    check_matrix(matrix)
    return columns_of(matrix)


def image(matrix, vector):
    """Return the image of a vector."""
    check_vector(matrix, vector)
    return image_of(matrix, vector)


def is_solution(matrix, side, vector):
    """Return whether a vector is a solution of a side."""
    check_side(matrix, side)
    check_vector(matrix, vector)
    return min(vector) >= 0 and image_of(matrix, vector) == side


def price(matrix, cost, vector):
    """Return the price of a vector."""
    check_cost(matrix, cost)
    check_vector(matrix, vector)
    return dot(cost, vector)


def comes_before(matrix, cost, one, other):
    """Return whether the first vector comes before the other one."""
    check_cost(matrix, cost)
    check_vector(matrix, one)
    check_vector(matrix, other)
    return is_before(cost, one, other)


def is_weight(matrix, row):
    """Return whether a row is a weight."""
    check_matrix(matrix)
    if len(row) != len(matrix):
        return False
    return all(dot(row, column) >= 1 for column in columns_of(matrix))


def is_ring(matrix, vector):
    """Return whether a vector is a ring."""
    check_vector(matrix, vector)
    return min(vector) >= 0 and any(vector) and not any(image_of(matrix, vector))


def found_weight(matrix):
    """Return a weight, or None."""
    # Only 0 lies on all facets of a pointed cone, so the sum of the facets is a weight.
    rows = facets_of(matrix)
    if not rows:
        return None
    total = primitive(tuple(sum(entries) for entries in zip(*rows)))
    if all(dot(total, column) >= 1 for column in columns_of(matrix)):
        return total
    return None


def ring_at(matrix, places):
    """Return a ring that all null vectors at these places are multiples of, or None."""
    lone = lone_at(matrix, places)
    if lone is None or min(lone) < 0:
        return None
    return lone


def found_ring(matrix):
    """Return a ring, or None."""
    # A ring at the fewest places is the only one there up to multiples, so that it
    # has at most one place more than the matrix has rows.
    for size in range(1, len(matrix) + 2):
        for places in combinations(range(len(matrix[0])), size):
            ring = ring_at(matrix, places)
            if ring is not None:
                return ring
    return None


def pointed_answer(matrix):
    """Return a weight or a ring, each behind its name."""
    check_matrix(matrix)
    weight = found_weight(matrix)
    if weight is not None:
        return "weight", weight
    return "ring", found_ring(matrix)


def is_pointed_answer(matrix, answer):
    """Return whether a tuple is a pointed answer."""
    check_matrix(matrix)
    if len(answer) != 2:
        return False
    kind, numbers = answer
    if kind == "weight":
        return is_weight(matrix, numbers)
    return kind == "ring" and is_vector(matrix, numbers) and is_ring(matrix, numbers)


def is_pointed(matrix):
    """Return whether a matrix is pointed."""
    check_matrix(matrix)
    return found_weight(matrix) is not None


def check_pointed(matrix):
    """Raise NotMatrix for what is no matrix, then NotPointed if it is not pointed."""
    if not is_pointed(matrix):
        raise NotPointed("the matrix has a ring")


def check_asked(matrix, cost, side):
    """Raise the error for what is wrong first of a pointed matrix, a cost and a side."""
    check_pointed(matrix)
    check_cost(matrix, cost)
    check_side(matrix, side)
