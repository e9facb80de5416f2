"""Matrices that are alike: those that reach the same sides, and those that a change makes equal."""

from itertools import permutations

from tallyhull.errors import BadNumber
from tallyhull.linear import columns_of, determinant, dot, stairs_of, unit
from tallyhull.matrices import check_matrix, check_pointed, has_integers
from tallyhull.solutions import left_of


def is_sum_of(columns, side):
    """Return whether a side is a sum of columns of a pointed matrix, each taken any number of times."""
    return left_of(side, columns, []).get((0,) * len(side), 0) > 0


def least_columns(matrix):
    """Return the ascending list of the least columns, tuples."""
    check_pointed(matrix)
    every = {column: True for column in columns_of(matrix)}
    return [column for column in sorted(every)
            if not is_sum_of([other for other in every if other != column], column)]


def check_heights(one, other):
    """Raise NotMatrix for the first one that is no matrix, then BadNumber for other rows."""
    check_matrix(one)
    check_matrix(other)
    if len(one) != len(other):
        raise BadNumber("the matrices have different numbers of rows")


def check_sizes(one, other):
    """Raise as `check_heights` does, then BadNumber for other columns."""
    check_heights(one, other)
    if len(one[0]) != len(other[0]):
        raise BadNumber("the matrices have different numbers of columns")


def unreached(one, other):
    """Return the first column of a matrix that is no side with a solution of another one, or None."""
    for column in columns_of(one):
        if not is_sum_of(columns_of(other), column):
            return column
    return None


def reach_difference(one, other):
    """Return a column of one of both that the other one does not reach, or None."""
    check_heights(one, other)
    check_pointed(one)
    check_pointed(other)
    column = unreached(one, other)
    return unreached(other, one) if column is None else column


def reach_same(one, other):
    """Return whether two pointed matrices reach the same sides."""
    return reach_difference(one, other) is None


def form_of_rows(matrix):
    """Return the row form of a matrix."""
    many = len(matrix[0])
    rows = stairs_of(matrix, many)
    return rows + ((0,) * many,) * (len(matrix) - len(rows))


def row_form(matrix):
    """Return the row form of a matrix."""
    check_matrix(matrix)
    return form_of_rows(matrix)


def reordered(matrix, order):
    """Return the matrix with its columns in another order."""
    return tuple(tuple(row[k] for k in order) for row in matrix)


def least_form(matrix):
    """Return the least one of the row forms of a matrix with its columns in all orders."""
    check_matrix(matrix)
    return min([form_of_rows(reordered(matrix, order))
                for order in permutations(range(len(matrix[0])))])


def change_to_form(matrix):
    """Return a change that makes the row form of a matrix."""
    many = len(matrix[0])
    height = len(matrix)
    rows = stairs_of([row + unit(height, k) for k, row in enumerate(matrix)], many + height)
    return tuple(row[many:] for row in rows)


def changed(change, matrix):
    """Return what a change makes of a matrix."""
    return tuple(tuple(dot(row, column) for column in columns_of(matrix)) for row in change)


def change_between(one, other):
    """Return an order and a change by which the first matrix becomes the other one, or None."""
    check_sizes(one, other)
    wanted = form_of_rows(other)
    for order in permutations(range(len(one[0]))):
        turned = reordered(one, order)
        if form_of_rows(turned) == wanted:
            # The change that makes the row form of a change, ones alone, takes it back.
            back = change_to_form(change_to_form(other))
            return order, changed(back, change_to_form(turned))
    return None


def is_square(change, height):
    """Return whether something is a square matrix, of so many rows, with a determinant 1 or -1."""
    if not isinstance(change, tuple) or len(change) != height:
        return False
    return all(has_integers(row, height) for row in change) and abs(determinant(change)) == 1


def is_change(one, other, order, change):
    """Return whether the first matrix becomes the other one by an order and a change."""
    check_sizes(one, other)
    many = len(one[0])
    if not has_integers(order, many) or sorted(order) != list(range(many)):
        return False
    return is_square(change, len(one)) and changed(change, reordered(one, order)) == other
