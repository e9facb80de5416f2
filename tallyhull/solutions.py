"""All solutions of one side: listed, counted, and joined by walks."""

from tallyhull.errors import BadNumber, TooLarge
from tallyhull.linear import columns_of, coordinates_of, dot, equations_of, facets_of, image_of
from tallyhull.linear import less, opposite_of, stairs_of, step_of
from tallyhull.matrices import check_pointed, check_side, check_vector, has_integers

GREATEST_ENTRY = 60
MOST_SOLUTIONS = 2000


def check_entries(side):
    """Raise TooLarge for a side with an entry greater than 60 without sign."""
    if any(abs(entry) > GREATEST_ENTRY for entry in side):
        raise TooLarge("an entry of the side is greater than 60 without sign")


def cone_rows(columns, many):
    """Return rows whose products with a side are all at least 0 if it lies in the cone of columns.

    The columns have so many entries; there may be none of them.
    """
    matrix = tuple(tuple(column[i] for column in columns) for i in range(many))
    equal = equations_of(matrix)
    return equal + [opposite_of(row) for row in equal] + facets_of(matrix)


def times_within(rows, side, column):
    """Return how often a column can be taken from a side that some rows may stay at least 0.

    These are the least and the greatest number, from 0 on; the least one is the greater one
    if there is none. Some row has a positive product with the column.
    """
    told = [(dot(row, side), dot(row, column)) for row in rows]
    if any(left < 0 and step == 0 for left, step in told):
        return 1, 0
    # A quotient is rounded up where it is the least number, and down where it is the greatest.
    low = max([-(left // -step) for left, step in told if step < 0], default=0)
    high = min([left // step for left, step in told if step > 0])
    return max(low, 0), high


def spread(layer, column, rows):
    """Return how often each side of a cone is left by taking a column from the sides of a layer.

    The layer tells how often each of its sides was left before.
    """
    place = step_of(column)
    tops = {}
    for side in layer:
        times = side[place] // column[place]
        base = less(side, times, column)
        tops[base] = max(times, tops.get(base, times))
    found = {}
    for base in tops:
        side = less(base, -tops[base], column)
        low, high = times_within(rows, side, column)
        ways = 0
        # Whoever goes on from the side before comes to this one, too.
        for taken in range(high + 1):
            ways = ways + layer.get(side, 0)
            if taken >= low:
                found[side] = ways
            side = less(side, 1, column)
    return found


def left_of(side, taken, rest):
    """Return how often which sides of the cone of the rest are left by taking columns from a side."""
    layer = {side: 1}
    for at, column in enumerate(taken):
        layer = spread(layer, column, cone_rows(taken[at + 1:] + rest, len(side)))
    return layer


def number_of(matrix, side):
    """Return the number of solutions of a side."""
    return left_of(side, columns_of(matrix), []).get((0,) * len(side), 0)


def solution_number(matrix, side):
    """Return the number of solutions of a side."""
    check_pointed(matrix)
    check_side(matrix, side)
    check_entries(side)
    return number_of(matrix, side)


def taken_from(parts, column, rest):
    """Return the parts of solutions with one entry more, and what is left of the side each time.

    What is left lies in the cone and in the lattice of the columns of the rest.
    """
    many = len(column)
    rows = cone_rows(rest, many)
    basis = stairs_of(rest, many)
    found = []
    for entries, side in parts:
        low, high = times_within(rows, side, column)
        for times in range(low, high + 1):
            left = less(side, times, column)
            if coordinates_of(basis, left) is not None:
                found.append((entries + (times,), left))
    return found


def solutions_of(matrix, side):
    """Return the list of all solutions of a side, or raise TooLarge."""
    check_entries(side)
    if number_of(matrix, side) > MOST_SOLUTIONS:
        raise TooLarge("there are more than 2000 solutions")
    columns = columns_of(matrix)
    parts = [((), side)]
    for k, column in enumerate(columns):
        parts = taken_from(parts, column, columns[k + 1:])
    return [entries for entries, _ in parts]


def solutions(matrix, side):
    """Return the list of all solutions of a side."""
    check_pointed(matrix)
    check_side(matrix, side)
    return solutions_of(matrix, side)


def times_of(column, side):
    """Return how often a column makes a side, an integer from 0 on, or None."""
    place = step_of(column)
    times = side[place] // column[place]
    return None if times < 0 or any(less(side, times, column)) else times


def column_range(matrix, side, column):
    """Return the least and the greatest entry of solutions at a column, or None for no solution."""
    check_pointed(matrix)
    check_side(matrix, side)
    if not 0 <= column < len(matrix[0]):
        raise BadNumber("there is no column with this index")
    check_entries(side)
    columns = columns_of(matrix)
    lone = columns[column]
    left = left_of(side, columns[:column] + columns[column + 1:], [lone])
    found = [times for times in [times_of(lone, rest) for rest in left] if times is not None]
    return (min(found), max(found)) if found else None


def is_null_step(matrix, step):
    """Return whether something is a vector of the null lattice."""
    return has_integers(step, len(matrix[0])) and not any(image_of(matrix, step))


def is_walk(matrix, one, other, steps):
    """Return whether a list is a walk from a vector to another one, without entries below 0."""
    check_pointed(matrix)
    check_vector(matrix, one)
    check_vector(matrix, other)
    if min(one) < 0 or min(other) < 0:
        return False
    here = one
    for step in steps:
        if not is_null_step(matrix, step):
            return False
        here = less(here, -1, step)
        if min(here) < 0:
            return False
    return here == other
