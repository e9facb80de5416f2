"""Solutions within bounds: steps of the Graver list lead to the first one of them."""

from tallyhull.answers import is_side_answer, shows, side_answer
from tallyhull.cheapest import first_solution
from tallyhull.errors import NoAnswer, NotVector, TooLarge
from tallyhull.graver import graver_or_raise, walk_of
from tallyhull.linear import fits, image_of, is_before, less, opposite_of
from tallyhull.matrices import check_asked, check_cost, check_pointed, has_integers, is_solution
from tallyhull.moves import LONGEST_CHAIN, check_solution

GREATEST_BOUND = 1000000


def check_bounds(matrix, bounds):
    """Raise NotVector for what are no bounds."""
    check_solution(matrix, bounds)
    if max(bounds) > GREATEST_BOUND:
        raise NotVector("a bound is greater than 1000000")


def steps_of(matrix):
    """Return the vectors of the Graver list, each ahead of its opposite, or raise TooLarge."""
    return [step for vector in graver_or_raise(matrix) for step in (vector, opposite_of(vector))]


def check_start(matrix, bounds, vector):
    """Raise the error for what is wrong first of a matrix, bounds and a vector."""
    check_pointed(matrix)
    check_bounds(matrix, bounds)
    check_solution(matrix, vector)


def check_priced(matrix, cost, bounds, vector):
    """Raise the error for what is wrong first of a matrix, a cost, bounds and a vector."""
    check_pointed(matrix)
    check_cost(matrix, cost)
    check_bounds(matrix, bounds)
    check_solution(matrix, vector)


def check_within(bounds, vector):
    """Raise NoAnswer for a vector that is not within bounds."""
    if not fits(vector, bounds):
        raise NoAnswer("the vector is not within the bounds")


def excess_of(bounds, vector):
    """Return the excess of a vector."""
    return sum(max(0, entry - bound) for entry, bound in zip(vector, bounds))


def excess(matrix, bounds, vector):
    """Return the excess of a vector, an integer."""
    check_start(matrix, bounds, vector)
    # All functions of this file want the Graver list to have no more than so many vectors.
    graver_or_raise(matrix)
    return excess_of(bounds, vector)


def first_step_within(steps, cost, bounds, vector):
    """Return the first step to a vector within bounds that comes before another one, or None."""
    for step in steps:
        there = less(vector, -1, step)
        if min(there) >= 0 and fits(there, bounds) and is_before(cost, there, vector):
            return step
    return None


def first_step_below(steps, bounds, vector):
    """Return the first step to a vector with a lesser excess, or None."""
    far = excess_of(bounds, vector)
    for step in steps:
        there = less(vector, -1, step)
        if min(there) >= 0 and excess_of(bounds, there) < far:
            return step
    return None


def way_by(step_at, vector):
    """Return the end of going on from a vector, as long as there is a step, and their list."""
    taken = []
    end = vector
    step = step_at(end)
    while step is not None:
        if len(taken) == LONGEST_CHAIN:
            raise TooLarge("there would be more than 5000 steps")
        taken.append(step)
        end = less(end, -1, step)
        step = step_at(end)
    return end, taken


def way_within(steps, cost, bounds, vector):
    """Return the end of going down within bounds, and the list of the steps."""
    return way_by(lambda here: first_step_within(steps, cost, bounds, here), vector)


def way_below(steps, bounds, vector):
    """Return the end of going down by the excess, and the list of the steps."""
    return way_by(lambda here: first_step_below(steps, bounds, here), vector)


def step_within(matrix, cost, bounds, vector):
    """Return the first step, within bounds, to a vector that comes before another one, or None."""
    check_priced(matrix, cost, bounds, vector)
    steps = steps_of(matrix)
    check_within(bounds, vector)
    return first_step_within(steps, cost, bounds, vector)


def down_within(matrix, cost, bounds, vector):
    """Return the pair of the end and the list of the steps of going down within bounds."""
    check_priced(matrix, cost, bounds, vector)
    steps = steps_of(matrix)
    check_within(bounds, vector)
    return way_within(steps, cost, bounds, vector)


def step_below(matrix, bounds, vector):
    """Return the first step that leads to a vector with a lesser excess, or None."""
    check_start(matrix, bounds, vector)
    return first_step_below(steps_of(matrix), bounds, vector)


def down_below(matrix, bounds, vector):
    """Return the pair of the end and the list of the steps of going down by the excess."""
    check_start(matrix, bounds, vector)
    return way_below(steps_of(matrix), bounds, vector)


def check_sided(matrix, cost, bounds, side):
    """Raise the error for what is wrong first of a matrix, a cost, bounds and a side."""
    check_pointed(matrix)
    check_cost(matrix, cost)
    check_bounds(matrix, bounds)
    check_asked(matrix, cost, side)


def nearest(matrix, cost, bounds, side):
    """Return a solution of a side with the least excess, the first one if it is 0, or None."""
    steps = steps_of(matrix)
    start = first_solution(matrix, cost, side)
    if start is None:
        return None
    end, _ = way_below(steps, bounds, start)
    return way_within(steps, cost, bounds, end)[0] if fits(end, bounds) else end


def first_within(matrix, cost, bounds, side):
    """Return the first solution of a side within bounds, or None."""
    check_sided(matrix, cost, bounds, side)
    found = nearest(matrix, cost, bounds, side)
    return found if found is not None and fits(found, bounds) else None


def bound_answer(matrix, cost, bounds, side):
    """Return a bound answer."""
    check_sided(matrix, cost, bounds, side)
    found = nearest(matrix, cost, bounds, side)
    if found is None:
        return "unsolved", side_answer(matrix, cost, side)
    return ("within" if fits(found, bounds) else "beyond"), found


def is_reached(matrix, cost, bounds, side, kind, vector):
    """Return whether something is a solution at which going down, within bounds or to them, ends."""
    steps = steps_of(matrix)
    if not has_integers(vector, len(matrix[0])) or not is_solution(matrix, side, vector):
        return False
    if fits(vector, bounds):
        return kind == "within" and first_step_within(steps, cost, bounds, vector) is None
    return kind == "beyond" and first_step_below(steps, bounds, vector) is None


def is_bound_answer(matrix, cost, bounds, side, answer):
    """Return whether a tuple is a bound answer for a side and bounds."""
    check_sided(matrix, cost, bounds, side)
    graver_or_raise(matrix)
    if not isinstance(answer, tuple) or len(answer) != 2:
        return False
    kind, told = answer
    if kind == "unsolved":
        return is_side_answer(matrix, cost, side, told) and shows(told) == "none"
    return is_reached(matrix, cost, bounds, side, kind, told)


def walk_within(matrix, bounds, one, other):
    """Return a list of vectors within bounds that leads from one solution to another one."""
    check_start(matrix, bounds, one)
    check_solution(matrix, other)
    graver_or_raise(matrix)
    check_within(bounds, one)
    check_within(bounds, other)
    if image_of(matrix, one) != image_of(matrix, other):
        raise NoAnswer("the vectors have different images")
    # Vectors between two others, at each column, are within the bounds.
    return walk_of(matrix, one, other)
