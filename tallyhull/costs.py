"""Costs that are alike: those with the same first solutions of all sides."""

from tallyhull.graver import graver_or_raise
from tallyhull.linear import image_of
from tallyhull.matrices import check_cost, check_pointed
from tallyhull.moves import proper_move, way_down
from tallyhull.testsets import least_of


def least_sets(matrix, costs):
    """Return the list of the least test sets of some costs."""
    check_pointed(matrix)
    for cost in costs:
        check_cost(matrix, cost)
    listed = graver_or_raise(matrix) if costs else []
    return [least_of(cost, [proper_move(cost, vector) for vector in listed]) for cost in costs]


def alike_costs(matrix, cost, other):
    """Return whether two costs are alike."""
    one, second = least_sets(matrix, [cost, other])
    return one == second


def parting_side(matrix, cost, other):
    """Return a side with two different first solutions by two costs, or None."""
    one, second = least_sets(matrix, [cost, other])
    for head, _ in one + second:
        if way_down(one, head)[0] != way_down(second, head)[0]:
            return image_of(matrix, head)
    return None


def cost_classes(matrix, costs):
    """Return for each cost of a list the index of the first one that is alike."""
    firsts = {}
    found = []
    for at, least in enumerate(least_sets(matrix, costs)):
        found.append(firsts.setdefault(tuple(least), at))
    return found
