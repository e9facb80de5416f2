"""Rows of integers of any size, any length and any number, without checks.

The modules of the interface check what they are given, and then call these.
"""

from itertools import combinations
from math import gcd, lcm


def dot(one, other):
    """Return the sum of the products of both rows."""
    return sum(a * b for a, b in zip(one, other))


def less(one, times, other):
    """Return the first row less so many times the other one."""
    return tuple(a - times * b for a, b in zip(one, other))


def opposite_of(row):
    """Return the row with all signs turned."""
    return tuple(-entry for entry in row)


def unit(many, place):
    """Return the row of so many entries with 1 at a place and 0 elsewhere."""
    return tuple(1 if k == place else 0 for k in range(many))


def columns_of(matrix):
    """Return the list of the columns of a matrix."""
    return list(zip(*matrix))


def image_of(matrix, vector):
    """Return the image of a vector."""
    return tuple(dot(row, vector) for row in matrix)


def is_before(cost, one, other):
    """Return whether the first vector comes before the other one."""
    return (dot(cost, one), one) < (dot(cost, other), other)


def fits(one, other):
    """Return whether no entry of the first row is greater than that of the other one."""
    return all(a <= b for a, b in zip(one, other))


def step_of(row):
    """Return the index of the first entry that is not 0, or None."""
    for place, entry in enumerate(row):
        if entry != 0:
            return place
    return None


def primitive(row):
    """Return the row divided by the greatest common divisor of its entries."""
    common = 0
    for entry in row:
        common = gcd(common, entry)
    if common == 0:
        return row
    return tuple(entry // common for entry in row)


def lowest(above, below):
    """Return a fraction as a pair in lowest terms, the second one positive."""
    common = gcd(above, below)
    if below < 0:
        common = -common
    return above // common, below // common


def split_off(rows, place):
    """Return a row with a positive entry at a place, or None, and rows with 0 there.

    Together they have the lattice of the rows that were given.
    """
    active = [row for row in rows if row[place] != 0]
    rest = [row for row in rows if row[place] == 0]
    while len(active) > 1:
        active = sorted(active, key=lambda row: abs(row[place]))
        least = active[0]
        left = [less(row, row[place] // least[place], least) for row in active[1:]]
        active = [least] + [row for row in left if row[place] != 0]
        rest = rest + [row for row in left if row[place] == 0 and any(row)]
    if not active:
        return None, rest
    if active[0][place] < 0:
        return opposite_of(active[0]), rest
    return active[0], rest


def stairs_of(vectors, many):
    """Return the tuple in stairs form with the lattice of tuples of so many integers."""
    rest = list(vectors)
    found = []
    for place in range(many):
        top, rest = split_off(rest, place)
        if top is not None:
            found = [less(row, row[place] // top[place], top) for row in found] + [top]
    return tuple(found)


def volume_of(rows):
    """Return the product of the entries at the steps of rows in stairs form."""
    volume = 1
    for row in rows:
        volume = volume * row[step_of(row)]
    return volume


def rank_among(vectors, many):
    """Return the rank of a list of tuples of so many integers."""
    return len(stairs_of(vectors, many))


def marked(rows, many):
    """Return for each of so many places the entries of all rows there, and its unit row."""
    return [tuple(row[k] for row in rows) + unit(many, k) for k in range(many)]


def null_of(vectors, many):
    """Return the stairs form of all tuples of so many integers orthogonal to the vectors."""
    # A basis in the place of the vectors keeps the marked rows short, and their entries small.
    rows = stairs_of(vectors, many)
    width = len(rows)
    found = stairs_of(marked(rows, many), width + many)
    return tuple(row[width:] for row in found if not any(row[:width]))


def lone_at(matrix, places):
    """Return the null vector that all those at these places are multiples of, or None."""
    rows = [tuple(row[k] for k in places) for row in matrix]
    form = null_of(rows, len(places))
    if len(form) != 1:
        return None
    entries = dict(zip(places, form[0]))
    return tuple(entries.get(k, 0) for k in range(len(matrix[0])))


def coordinates_of(rows, vector):
    """Return the tuple of the coordinates by rows in stairs form, or None."""
    left = vector
    found = []
    for row in rows:
        place = step_of(row)
        times, rest = divmod(left[place], row[place])
        if rest != 0:
            return None
        left = less(left, times, row)
        found.append(times)
    if any(left):
        return None
    return tuple(found)


def crosswise(row, other, place):
    """Return the sum of multiples of both rows that is 0 at a place."""
    return tuple(other[place] * a - row[place] * b for a, b in zip(row, other))


def equations_of(matrix):
    """Return the equations of a matrix as a list."""
    found = []
    for row in reversed(null_of(columns_of(matrix), len(matrix))):
        clean = row
        for other in found:
            clean = primitive(crosswise(clean, other, step_of(other)))
        found = [clean] + found
    return found


def holds(row, columns):
    """Return whether the product of a row with each column is at least 0."""
    return all(dot(row, column) >= 0 for column in columns)


def without_place(rows, place):
    """Return the rows with their entries at one place left out."""
    return [row[:place] + row[place + 1:] for row in rows]


def determinant(rows):
    """Return the determinant of as many rows as they have entries."""
    if not rows:
        return 1
    total = 0
    for place, entry in enumerate(rows[0]):
        part = entry * determinant(without_place(rows[1:], place)) if entry != 0 else 0
        total = total - part if place & 1 else total + part
    return total


def normal_of(rows, many):
    """Return a row orthogonal to one row less than it has entries; zeros if these depend."""
    minors = [determinant(without_place(rows, place)) for place in range(many)]
    return primitive(tuple(-minor if place & 1 else minor for place, minor in enumerate(minors)))


def facets_along(columns, units, many, size):
    """Return the facets that are 0 at so many of the columns and at the places of the units."""
    found = {}
    for chosen in combinations(columns, size):
        normal = normal_of(units + list(chosen), many)
        if any(normal):
            for row in (normal, opposite_of(normal)):
                if holds(row, columns):
                    found[row] = True
    return sorted(found)


def facets_of(matrix):
    """Return the ascending list of the facets of the cone of a matrix, also if not pointed."""
    many = len(matrix)
    units = [unit(many, step_of(row)) for row in equations_of(matrix)]
    if len(units) == many:
        return []
    return facets_along(columns_of(matrix), units, many, many - len(units) - 1)


def is_in_cone_of(matrix, side):
    """Return whether a side lies in the cone of a pointed matrix."""
    if any(dot(row, side) != 0 for row in equations_of(matrix)):
        return False
    return all(dot(row, side) >= 0 for row in facets_of(matrix))


def row_with(rows, place):
    """Return the first row with an entry other than 0 at a place, or None."""
    for row in rows:
        if row[place] != 0:
            return row
    return None


def shares_of(chosen, side):
    """Return the fractions with which columns add up to a side.

    Return None if the columns are not independent, or do not add up to it.
    """
    many = len(chosen)
    rest = list(zip(*chosen, side))
    solved = []
    for place in range(many):
        lead = row_with(rest, place)
        if lead is None:
            return None
        # The lead itself becomes a row of zeros, which does no harm among the rest.
        rest = [crosswise(row, lead, place) for row in rest]
        solved = [crosswise(row, lead, place) for row in solved] + [lead]
    if any(row[many] != 0 for row in rest):
        return None
    return tuple(lowest(row[many], row[at]) for at, row in enumerate(solved))


def gauges_of(chosen, many):
    """Return for each column a row that is 0 at all others, and its positive product with it.

    Return None if the columns, of so many entries, are not independent.
    """
    found = []
    for at, column in enumerate(chosen):
        others = chosen[:at] + chosen[at + 1:]
        rows = [row for row in null_of(others, many) if dot(row, column) != 0]
        if not rows:
            return None
        times = dot(rows[0], column)
        found.append((rows[0], times) if times > 0 else (opposite_of(rows[0]), -times))
    return found


def scaled_up(numbers):
    """Return fractions as integers over one positive integer, and this integer."""
    common = 1
    for _, below in numbers:
        common = lcm(common, below)
    return tuple(above * (common // below) for above, below in numbers), common
