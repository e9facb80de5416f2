"""The lattice of the columns of a matrix, and that of the vectors with the image 0."""

from tallyhull.linear import columns_of, coordinates_of, dot, equations_of, image_of
from tallyhull.linear import less, marked, null_of, primitive, stairs_of, step_of, volume_of
from tallyhull.matrices import check_matrix, check_side, check_vector, is_vector


def side_basis(matrix):
    """Return the side basis."""
    check_matrix(matrix)
    return stairs_of(columns_of(matrix), len(matrix))


def side_index(matrix):
    """Return the index of the side lattice, or None if the rank is too small for one."""
    basis = side_basis(matrix)
    if len(basis) < len(matrix):
        return None
    return volume_of(basis)


def null_basis(matrix):
    """Return the null basis."""
    check_matrix(matrix)
    return null_of(matrix, len(matrix[0]))


def null_coordinates(matrix, vector):
    """Return the coordinates of a vector in the null basis, or None."""
    check_vector(matrix, vector)
    return coordinates_of(null_basis(matrix), vector)


def whole_for(matrix, side):
    """Return a vector of any integers with a side as its image, or None."""
    many = len(matrix)
    width = many + len(matrix[0])
    left = side + (0,) * len(matrix[0])
    for row in stairs_of(marked(matrix, len(matrix[0])), width):
        place = step_of(row)
        times = left[place] // row[place]
        left = less(left, times, row)
    if any(left[:many]):
        return None
    return tuple(-entry for entry in left[many:])


def rest_at(basis, at, many):
    """Return a rest paper by the row of the basis with an index, or what is none.

    Its products with the other rows are 0, and with this one m.
    """
    m = volume_of(basis[:at + 1])
    entries = {step_of(basis[at]): m // basis[at][step_of(basis[at])]}
    for row in reversed(basis[:at]):
        place = step_of(row)
        others = sum(row[k] * entry for k, entry in entries.items())
        entries[place] = -others // row[place]
    told = primitive(tuple(entries.get(k, 0) for k in range(many)) + (m,))
    return told[:-1], told[-1]


def rest_for(matrix, side):
    """Return a rest paper for a side that is not in the side lattice."""
    for row in equations_of(matrix):
        if dot(row, side) != 0:
            return row, 0
    basis = side_basis(matrix)
    for at in range(len(basis)):
        row, m = rest_at(basis, at, len(matrix))
        if dot(row, side) % m != 0:
            return row, m
    return None


def lattice_answer(matrix, side):
    """Return a vector with this image, or a rest paper, each behind its name."""
    check_side(matrix, side)
    numbers = whole_for(matrix, side)
    if numbers is not None:
        return "whole", numbers
    row, m = rest_for(matrix, side)
    return "rest", row, m


def divides(m, number):
    """Return whether m divides a number; 0 divides 0 alone."""
    if m == 0:
        return number == 0
    return number % m == 0


def is_rest_paper(matrix, side, row, m):
    """Return whether a row and an integer are a rest paper of a side."""
    check_side(matrix, side)
    if len(row) != len(matrix) or m < 0 or m == 1:
        return False
    if not all(divides(m, dot(row, column)) for column in columns_of(matrix)):
        return False
    return not divides(m, dot(row, side))


def is_lattice_answer(matrix, side, answer):
    """Return whether a tuple is a lattice answer for a side."""
    check_side(matrix, side)
    if len(answer) == 2 and answer[0] == "whole":
        return is_vector(matrix, answer[1]) and image_of(matrix, answer[1]) == side
    if len(answer) == 3 and answer[0] == "rest":
        return is_rest_paper(matrix, side, answer[1], answer[2])
    return False
