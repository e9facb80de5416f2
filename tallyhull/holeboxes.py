"""All holes of a matrix, told by its fundamental holes and where they stop."""

from tallyhull.errors import NoAnswer, TooLarge
from tallyhull.graver import graver_of
from tallyhull.holes import fundamental_holes, is_between, is_fundamental, is_in_lattice_of
from tallyhull.holes import low_part_of
from tallyhull.linear import fits, image_of, is_in_cone_of, less, opposite_of, unit
from tallyhull.matrices import check_pointed, check_side, has_integers
from tallyhull.signs import parts
from tallyhull.testsets import least_heads

MOST_LISTED = 400
MOST_PAIRS = 3000


def vectors_to(matrix, side):
    """Return the vectors of any integers with a side as image that have no other one below them.

    With 1 as one entry more they are null for the matrix with the side, turned, as one column
    more: so they are in that Graver list, or their opposites are. Raise TooLarge if it is too long.
    """
    wider = tuple(row + (-entry,) for row, entry in zip(matrix, side))
    listed = graver_of(wider, MOST_LISTED)
    if listed is None:
        raise TooLarge("with a column more the Graver list has more than 400 vectors")
    found = [vector[:-1] for vector in listed if vector[-1] == 1]
    return found + [opposite_of(vector[:-1]) for vector in listed if vector[-1] == -1]


def stops_of(matrix, hole):
    """Return the ascending list of the stops of a fundamental hole.

    Where hole + A x is A z, z less x is a vector with the hole as its image, and x is at
    least its part below 0.
    """
    found = {parts(vector)[1]: True for vector in vectors_to(matrix, hole)}
    return least_heads(list(found))


def stops_of_hole(matrix, hole):
    """Return the list of the stops of a fundamental hole."""
    check_pointed(matrix)
    check_side(matrix, hole)
    if not is_fundamental(matrix, hole):
        raise NoAnswer("the side is no fundamental hole")
    return stops_of(matrix, hole)


def hole_boxes(matrix):
    """Return the list of all hole boxes, in the order of the fundamental holes."""
    return [(hole, stops_of(matrix, hole)) for hole in fundamental_holes(matrix)]


def is_stopped(stops, times):
    """Return whether some stop is at most as great as a tuple, entry by entry."""
    return any(fits(stop, times) for stop in stops)


def paper_for(matrix, side):
    """Return a hole paper for a side of the cone and of the lattice, or None."""
    low, times = low_part_of(matrix, side)
    if not any(low) or (any(times) and is_stopped(stops_of(matrix, low), times)):
        return None
    return low, times


def kind_of_side(matrix, side):
    """Return the kind of a side, a string."""
    check_pointed(matrix)
    check_side(matrix, side)
    if not is_in_cone_of(matrix, side):
        return "outside"
    if not is_in_lattice_of(matrix, side):
        return "rest"
    return "solved" if paper_for(matrix, side) is None else "hole"


def is_solved(matrix, side):
    """Return whether a side has a solution."""
    return kind_of_side(matrix, side) == "solved"


def is_hole(matrix, side):
    """Return whether a side is a hole."""
    return kind_of_side(matrix, side) == "hole"


def hole_paper(matrix, side):
    """Return a hole paper of a side, or None."""
    check_pointed(matrix)
    check_side(matrix, side)
    return paper_for(matrix, side) if is_between(matrix, side) else None


def is_hole_paper_of(matrix, side, paper):
    """Return whether something is a hole paper of a side."""
    if not isinstance(paper, tuple) or len(paper) != 2:
        return False
    hole, times = paper
    if not has_integers(hole, len(matrix)) or not has_integers(times, len(matrix[0])):
        return False
    if min(times) < 0 or less(side, 1, image_of(matrix, times)) != hole:
        return False
    if not is_fundamental(matrix, hole):
        return False
    return not any(times) or not is_stopped(stops_of(matrix, hole), times)


def is_hole_paper(matrix, side, paper):
    """Return whether a pair of tuples of integers is a hole paper of a side."""
    check_pointed(matrix)
    check_side(matrix, side)
    return is_hole_paper_of(matrix, side, paper)


def is_stop_at(stop, k):
    """Return whether all entries of a stop but that at one index are 0."""
    return not any(stop[:k]) and not any(stop[k + 1:])


def first_endless(matrix, found):
    """Return the first fundamental hole without a stop along a column, with its index, or None."""
    for hole, stops in found:
        for k in range(len(matrix[0])):
            if not any(is_stop_at(stop, k) for stop in stops):
                return hole, k
    return None


def endless_hole(matrix):
    """Return the first endless hole, a fundamental hole and the index of a column, or None."""
    return first_endless(matrix, hole_boxes(matrix))


def tuples_before(stops, many, most):
    """Return the list of all tuples from 0 on without a stop, or None for more than so many."""
    found = [(0,) * many]
    layer = [((0,) * many, 0)]
    while layer and len(found) <= most:
        # Each tuple comes from one alone: from that with 1 less at its last index that is not 0.
        grown = [(less(times, -1, unit(many, k)), k)
                 for times, last in layer for k in range(last, many)]
        layer = [(times, k) for times, k in grown if not is_stopped(stops, times)]
        found.extend([times for times, _ in layer])
    return found if len(found) <= most else None


def all_holes(matrix):
    """Return the ascending list of all holes."""
    boxes = hole_boxes(matrix)
    if first_endless(matrix, boxes) is not None:
        raise NoAnswer("there are endless holes")
    found = {}
    left = MOST_PAIRS
    for hole, stops in boxes:
        tuples = tuples_before(stops, len(matrix[0]), left)
        if tuples is None:
            raise TooLarge("there are more than 3000 pairs of a fundamental hole and a tuple")
        left = left - len(tuples)
        for times in tuples:
            found[less(hole, -1, image_of(matrix, times))] = True
    return sorted(found)
