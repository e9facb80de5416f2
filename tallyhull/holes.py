"""Low sides and fundamental holes: the sides from which all others are made by columns."""

from tallyhull.errors import NoAnswer, TooLarge
from tallyhull.farkas import bases, columns_at
from tallyhull.linear import columns_of, coordinates_of, dot, facets_of, gauges_of
from tallyhull.linear import is_in_cone_of, less, stairs_of, volume_of
from tallyhull.matrices import check_pointed, check_side

MOST_SUMS = 20000


def is_in_lattice_of(matrix, side):
    """Return whether a side lies in the side lattice."""
    basis = stairs_of(columns_of(matrix), len(matrix))
    return coordinates_of(basis, side) is not None


def is_between(matrix, side):
    """Return whether a side lies in the cone and in the side lattice."""
    return is_in_cone_of(matrix, side) and is_in_lattice_of(matrix, side)


def products_with(rows, side):
    """Return the tuple of the products of rows with a side."""
    return tuple(dot(row, side) for row in rows)


def is_low_by(rows, heights, side):
    """Return whether a side of the cone leaves it by taking away any one of the columns.

    The heights are the products of the facets, the rows, with each column.
    """
    told = products_with(rows, side)
    return all(any(a < b for a, b in zip(told, height)) for height in heights)


def heights_of(matrix, rows):
    """Return for each column the tuple of the products of rows with it."""
    return [products_with(rows, column) for column in columns_of(matrix)]


def is_fundamental(matrix, side):
    """Return whether a side is a fundamental hole."""
    rows = facets_of(matrix)
    if not any(side) or not is_between(matrix, side):
        return False
    return is_low_by(rows, heights_of(matrix, rows), side)


def form_of(basis, chosen):
    """Return the stairs form of columns told by their coordinates in the side basis."""
    return stairs_of([coordinates_of(basis, column) for column in chosen], len(basis))


def brought_in(chosen, gauges, side):
    """Return the side less multiples of independent columns, the fractions left being less than 1."""
    left = side
    for column, (row, size) in zip(chosen, gauges):
        left = less(left, dot(row, left) // size, column)
    return left


def sums_of_base(basis, form, chosen, many):
    """Return the sides of the lattice that are fractions, from 0 on less than 1, of a base."""
    # The form has a row with its step at each index: it tells one side of each class.
    sums = [(0,) * many]
    for at, row in enumerate(form):
        sums = [less(total, -times, basis[at]) for total in sums for times in range(row[at])]
    gauges = gauges_of(chosen, many)
    return [brought_in(chosen, gauges, total) for total in sums]


def low_sides_of(matrix):
    """Return the ascending list of the low sides of a pointed matrix."""
    many = len(matrix)
    basis = stairs_of(columns_of(matrix), many)
    every = [columns_at(matrix, places) for places in bases(matrix)]
    forms = [form_of(basis, chosen) for chosen in every]
    if sum(volume_of(form) for form in forms) > MOST_SUMS:
        raise TooLarge("the bases have more than 20000 sums together")
    rows = facets_of(matrix)
    heights = heights_of(matrix, rows)
    found = {}
    for form, chosen in zip(forms, every):
        for side in sums_of_base(basis, form, chosen, many):
            if side not in found:
                found[side] = is_low_by(rows, heights, side)
    return sorted([side for side in found if found[side]])


def low_sides(matrix):
    """Return the ascending list of the low sides."""
    check_pointed(matrix)
    return low_sides_of(matrix)


def fundamental_holes(matrix):
    """Return the list of the fundamental holes."""
    return [side for side in low_sides(matrix) if any(side)]


def is_normal(matrix):
    """Return whether a matrix has no holes."""
    return not fundamental_holes(matrix)


def low_part_of(matrix, side):
    """Return a low side for a side of the cone and of the lattice, and how often columns are added.

    As often as possible the first column is taken away, then the second one, and so on: what
    cannot be taken away once cannot be taken away later.
    """
    rows = facets_of(matrix)
    low = side
    times = []
    for column in columns_of(matrix):
        told = [(dot(row, low), dot(row, column)) for row in rows]
        most = min([a // b for a, b in told if b > 0])
        times.append(most)
        low = less(low, most, column)
    return low, tuple(times)


def low_part(matrix, side):
    """Return a low side, and how often columns are added to it to make a side."""
    check_pointed(matrix)
    check_side(matrix, side)
    if not is_between(matrix, side):
        raise NoAnswer("the side is not in the cone, or not in the lattice")
    return low_part_of(matrix, side)
