"""The cone of the columns of a pointed matrix: its equations, facets, faces and rays."""

from tallyhull.errors import NoAnswer
from tallyhull.linear import columns_of, dot, equations_of, facets_of, is_in_cone_of
from tallyhull.linear import rank_among, step_of
from tallyhull.matrices import check_matrix, check_pointed, check_side


def equations(matrix):
    """Return the list of the equations."""
    check_matrix(matrix)
    return equations_of(matrix)


def fixed_places(matrix):
    """Return the ascending list of the fixed places."""
    return [step_of(row) for row in equations(matrix)]


def rank_of(matrix):
    """Return the rank of the columns."""
    return len(matrix) - len(equations(matrix))


def facets(matrix):
    """Return the ascending list of the facets."""
    check_pointed(matrix)
    return facets_of(matrix)


def columns_on(matrix, rows):
    """Return the indexes of the columns that have the product 0 with all of the rows."""
    return tuple(k for k, column in enumerate(columns_of(matrix))
                 if not any(dot(row, column) for row in rows))


def faces(matrix):
    """Return the list of the faces, those with fewer columns first."""
    found = {columns_on(matrix, []): True}
    for row in facets(matrix):
        flat = columns_on(matrix, [row])
        for face in list(found):
            found[tuple(k for k in face if k in flat)] = True
    return sorted(found, key=lambda face: (len(face), face))


def is_face(matrix, columns):
    """Return whether an ascending tuple of indexes is a face."""
    return columns in faces(matrix)


def parallels(matrix, at):
    """Return the indexes of the columns that are multiples, with fractions, of one column."""
    rows = columns_of(matrix)
    return tuple(k for k, row in enumerate(rows)
                 if rank_among([rows[at], row], len(matrix)) == 1)


def rays(matrix):
    """Return the ascending list of the indexes of the rays."""
    found = faces(matrix)
    return [k for k in range(len(matrix[0])) if parallels(matrix, k) in found]


def is_in_cone(matrix, side):
    """Return whether a side lies in the cone."""
    check_pointed(matrix)
    check_side(matrix, side)
    return is_in_cone_of(matrix, side)


def face_of(matrix, side):
    """Return the least face in whose cone a side lies."""
    if not is_in_cone(matrix, side):
        raise NoAnswer("the side is not in the cone")
    return columns_on(matrix, [row for row in facets_of(matrix) if dot(row, side) == 0])
