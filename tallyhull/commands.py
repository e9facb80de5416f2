"""The commands of a desk that only tell something: what each one wants, and its operation.

In what a command wants, N stands for a new name, M for a matrix, T for a tuple, L for a list of
moves, A for any of these, X for an integer from 0 to 99, and U for any words.
"""

from tallyhull.alikes import least_form, reach_same
from tallyhull.boxes import boxes
from tallyhull.cheapest import first_solution, optimum, second_solution
from tallyhull.cones import faces, facets
from tallyhull.costs import alike_costs, parting_side
from tallyhull.graver import circuits, graver_list
from tallyhull.hilbert import hilbert_list
from tallyhull.holeboxes import kind_of_side, stops_of_hole
from tallyhull.holes import fundamental_holes, low_part
from tallyhull.joins import needed_sides
from tallyhull.lattices import null_basis, side_index
from tallyhull.losses import greatest_loss, loss_of
from tallyhull.matrices import pointed_answer
from tallyhull.moves import go_down
from tallyhull.optima import fraction_optimum
from tallyhull.relaxed import best_bound, exact_cells
from tallyhull.siderows import row_law
from tallyhull.solutions import column_range, solution_number
from tallyhull.staircases import cells
from tallyhull.testsets import is_test_set
from tallyhull.texts import list_text, ratio_text, tuple_text
from tallyhull.turns import breaks

NONE = "none"


def yes_or_no(truth):
    """Return the word for what is true or not."""
    return "yes" if truth else "no"


def number_or_none(number):
    """Return the text of an integer, or the word for None."""
    return NONE if number is None else str(number)


def tuple_or_none(numbers):
    """Return the text of a tuple, or the word for None."""
    return NONE if numbers is None else tuple_text(numbers)


def tell_pointed(matrix):
    """Answer the line `pointed M`."""
    return pointed_answer(matrix)[0]


def tell_index(matrix):
    """Answer the line `index M`."""
    return number_or_none(side_index(matrix))


def tell_null(matrix):
    """Answer the line `null M`."""
    return list_text(null_basis(matrix))


def tell_graver(matrix):
    """Answer the line `graver M`."""
    return list_text(graver_list(matrix))


def tell_circuits(matrix):
    """Answer the line `circuits M`."""
    return list_text(circuits(matrix))


def tell_facets(matrix):
    """Answer the line `facets M`."""
    return list_text(facets(matrix))


def tell_faces(matrix):
    """Answer the line `faces M`."""
    return str(len(faces(matrix)))


def tell_kind(matrix, side):
    """Answer the line `kind M V`."""
    return kind_of_side(matrix, side)


def tell_low(matrix, side):
    """Answer the line `low M V`."""
    return tuple_text(low_part(matrix, side)[0])


def tell_isset(matrix, cost, moves):
    """Answer the line `isset M C L`."""
    return yes_or_no(is_test_set(matrix, cost, moves))


def tell_goes(matrix, cost, moves, vector):
    """Answer the line `goes M C L V`."""
    return tuple_text(go_down(matrix, cost, moves, vector)[0])


def tell_first(matrix, cost, side):
    """Answer the line `first M C V`."""
    return tuple_or_none(first_solution(matrix, cost, side))


def tell_second(matrix, cost, side):
    """Answer the line `second M C V`."""
    return tuple_or_none(second_solution(matrix, cost, side))


def tell_best(matrix, cost, side):
    """Answer the line `best M C V`."""
    return number_or_none(optimum(matrix, cost, side))


def tell_fraction(matrix, cost, side):
    """Answer the line `fraction M C V`."""
    number = fraction_optimum(matrix, cost, side)
    return NONE if number is None else ratio_text(number)


def tell_loss(matrix, cost, side):
    """Answer the line `loss M C V`."""
    return ratio_text(loss_of(matrix, cost, side))


def tell_greatest(matrix, cost):
    """Answer the line `greatest M C`."""
    return ratio_text(greatest_loss(matrix, cost))


def tell_boxes(matrix, cost):
    """Answer the line `boxes M C`."""
    return str(len(boxes(matrix, cost)))


def tell_cells(matrix, cost):
    """Answer the line `cells M C`."""
    return list_text(cells(matrix, cost))


def tell_holes(matrix):
    """Answer the line `holes M`."""
    return list_text(fundamental_holes(matrix))


def tell_stops(matrix, side):
    """Answer the line `stops M V`."""
    return list_text(stops_of_hole(matrix, side))


def tell_count(matrix, side):
    """Answer the line `count M V`."""
    return str(solution_number(matrix, side))


def tell_range(matrix, side, column):
    """Answer the line `range M V X`."""
    return tuple_or_none(column_range(matrix, side, column))


def tell_needed(matrix):
    """Answer the line `needed M`."""
    return list_text([side for side, _ in needed_sides(matrix)])


def tell_alike(matrix, cost, other):
    """Answer the line `alike M C D`."""
    return yes_or_no(alike_costs(matrix, cost, other))


def tell_parts(matrix, cost, other):
    """Answer the line `parts M C D`."""
    return tuple_or_none(parting_side(matrix, cost, other))


def tell_hilbert(matrix):
    """Answer the line `hilbert M`."""
    return list_text(hilbert_list(matrix))


def tell_breaks(matrix, cost, turn):
    """Answer the line `breaks M C D`."""
    found = breaks(matrix, cost, turn)
    return " ".join([ratio_text(number) for number in found]) if found else "empty"


def tell_rowlaw(matrix, cost, start, step):
    """Answer the line `rowlaw M C V D`."""
    return tuple_text(row_law(matrix, cost, start, step)[:2])


def tell_bound(matrix, cost, side):
    """Answer the line `bound M C V`."""
    return number_or_none(best_bound(matrix, cost, side))


def tell_exact(matrix, cost, side):
    """Answer the line `exact M C V`."""
    return list_text(exact_cells(matrix, cost, side))


def tell_reach(one, other):
    """Answer the line `reach M M`."""
    return yes_or_no(reach_same(one, other))


def tell_form(matrix):
    """Answer the line `form M`."""
    # A least form may have greater entries than a matrix.
    return list_text(least_form(matrix))


WANTED = {
    "pointed": "M", "index": "M", "null": "M", "graver": "M", "circuits": "M", "facets": "M",
    "faces": "M", "kind": "MT", "low": "MT", "isset": "MTL", "goes": "MTLT", "first": "MTT",
    "second": "MTT", "best": "MTT", "fraction": "MTT", "loss": "MTT", "greatest": "MT",
    "boxes": "MT", "cells": "MT", "holes": "M", "stops": "MT", "count": "MT", "range": "MTX",
    "needed": "M", "alike": "MTT", "parts": "MTT", "hilbert": "M", "breaks": "MTT",
    "rowlaw": "MTTT", "bound": "MTT", "exact": "MTT", "reach": "MM", "form": "M",
}
TELLING = {
    "pointed": tell_pointed, "index": tell_index, "null": tell_null, "graver": tell_graver,
    "circuits": tell_circuits, "facets": tell_facets, "faces": tell_faces, "kind": tell_kind,
    "low": tell_low, "isset": tell_isset, "goes": tell_goes, "first": tell_first,
    "second": tell_second, "best": tell_best, "fraction": tell_fraction, "loss": tell_loss,
    "greatest": tell_greatest, "boxes": tell_boxes, "cells": tell_cells, "holes": tell_holes,
    "stops": tell_stops, "count": tell_count, "range": tell_range, "needed": tell_needed,
    "alike": tell_alike, "parts": tell_parts, "hilbert": tell_hilbert, "breaks": tell_breaks,
    "rowlaw": tell_rowlaw, "bound": tell_bound, "exact": tell_exact, "reach": tell_reach,
    "form": tell_form,
}


def wanted_by(command):
    """Return what a command that only tells something wants, or None."""
    return WANTED.get(command)


def told_by(command, things):
    """Return what a command tells of the things that it wants."""
    action = TELLING[command]
    return action(*things)
