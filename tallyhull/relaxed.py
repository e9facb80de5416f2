"""Relaxed columns: solutions that may be less than 0 at the columns of a cell."""

from tallyhull.boxes import boxes
from tallyhull.errors import BadNumber
from tallyhull.farkas import columns_at, index_sets
from tallyhull.linear import columns_of, dot, gauges_of, image_of, is_before, less, lone_at
from tallyhull.linear import opposite_of, rank_among
from tallyhull.matrices import check_asked, check_cost, check_pointed


def is_behind(cost, vector):
    """Return whether the vector of zeros comes before another one."""
    return is_before(cost, (0,) * len(vector), vector)


def is_cell(matrix, cost, places):
    """Return whether a tuple of as many indexes as the rank is a cell.

    It is if the columns are independent, and any other column, taken as often as need be, comes
    behind the sum of them that it is: this needs no test set, however great that is.
    """
    if rank_among(columns_at(matrix, places), len(matrix)) < len(places):
        return False
    for k in range(len(matrix[0])):
        if k not in places:
            lone = lone_at(matrix, places + (k,))
            if not is_behind(cost, lone if lone[k] > 0 else opposite_of(lone)):
                return False
    return True


def cells_of(matrix, cost):
    """Return the ascending list of the cells."""
    size = rank_among(columns_of(matrix), len(matrix))
    return [places for places in index_sets(matrix, size) if is_cell(matrix, cost, places)]


def check_cell(matrix, cost, cell):
    """Raise BadNumber for what is no cell."""
    if cell not in cells_of(matrix, cost):
        raise BadNumber("the tuple is no cell")


def vectors_of(listed, cell):
    """Return the ascending list of the fixed parts of the boxes whose free columns are a cell."""
    return sorted([u for u, free in listed if free == cell])


def class_vectors(matrix, cost, cell):
    """Return the ascending list of the vectors of all classes, outside of a cell."""
    check_pointed(matrix)
    check_cost(matrix, cost)
    check_cell(matrix, cost, cell)
    return vectors_of(boxes(matrix, cost), cell)


def times_for(chosen, gauges, side):
    """Return how often independent columns are taken to make a side, any integers, or None."""
    # A row is 0 at all columns but its own: it tells how often that one is taken.
    times = [dot(row, side) // size for row, size in gauges]
    left = side
    for number, column in zip(times, chosen):
        left = less(left, number, column)
    return None if any(left) else times


def relaxed_by(matrix, listed, cell, side):
    """Return the relaxed first solution of a side for a cell by the standard boxes, or None."""
    chosen = columns_at(matrix, cell)
    gauges = gauges_of(chosen, len(matrix))
    for u in vectors_of(listed, cell):
        times = times_for(chosen, gauges, less(side, 1, image_of(matrix, u)))
        if times is not None:
            told = dict(zip(cell, times))
            return tuple(told.get(k, entry) for k, entry in enumerate(u))
    return None


def relaxed_first(matrix, cost, cell, side):
    """Return the relaxed first solution of a side for a cell, or None."""
    check_asked(matrix, cost, side)
    check_cell(matrix, cost, cell)
    return relaxed_by(matrix, boxes(matrix, cost), cell, side)


def relaxed_optimum(matrix, cost, cell, side):
    """Return the relaxed optimum of a side for a cell, or None."""
    found = relaxed_first(matrix, cost, cell, side)
    return None if found is None else dot(cost, found)


def is_exact(matrix, cost, cell, side):
    """Return whether a side is exact for a cell."""
    found = relaxed_first(matrix, cost, cell, side)
    return found is not None and min(found) >= 0


def relaxed_of(matrix, cost, side):
    """Return for each cell the pair of it and of the relaxed first solution, or None."""
    check_asked(matrix, cost, side)
    listed = boxes(matrix, cost)
    return [(cell, relaxed_by(matrix, listed, cell, side)) for cell in cells_of(matrix, cost)]


def best_bound(matrix, cost, side):
    """Return the greatest one of the relaxed optima of a side, or None out of the lattice."""
    # There is at least one cell, and a side of the lattice has a solution for each of them.
    return max([dot(cost, found) for _, found in relaxed_of(matrix, cost, side)
                if found is not None], default=None)


def exact_cells(matrix, cost, side):
    """Return the ascending list of the cells for which a side is exact."""
    return [cell for cell, found in relaxed_of(matrix, cost, side)
            if found is not None and min(found) >= 0]
