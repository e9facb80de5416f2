"""Side answers: the first solution of a side, or a paper that it has none."""

from tallyhull.boxes import boxes, first_in
from tallyhull.farkas import farkas_paper, is_farkas_paper
from tallyhull.holeboxes import is_hole_paper_of
from tallyhull.holes import low_part_of
from tallyhull.lattices import is_rest_paper, lattice_answer
from tallyhull.linear import image_of
from tallyhull.matrices import check_asked, check_cost, check_pointed, has_integers, is_solution
from tallyhull.moves import check_solution, first_standing, is_proper, way_down
from tallyhull.testsets import first_fault, least_test_set, listed_moves


def side_answer(matrix, cost, side):
    """Return a side answer."""
    check_asked(matrix, cost, side)
    row = farkas_paper(matrix, side)
    if row is not None:
        return "signs", row
    told = lattice_answer(matrix, side)
    if told[0] == "rest":
        return told
    moves = least_test_set(matrix, cost)
    first = first_in(matrix, boxes(matrix, cost), side)
    if first is not None:
        return "first", first, moves
    # The side is a hole: so its low part is a fundamental one, with no stop before it.
    low, times = low_part_of(matrix, side)
    return "hole", low, times


def is_test_list(matrix, cost, moves):
    """Return whether something is a test set, as a list of different moves."""
    if not isinstance(moves, list) or not all(is_proper(matrix, cost, move) for move in moves):
        return False
    if len({move: True for move in moves}) < len(moves):
        return False
    return first_fault(moves, listed_moves(matrix, cost)) is None


def shows_first(matrix, cost, side, vector, moves):
    """Return whether a vector and a list of moves show the first solution of a side."""
    if not has_integers(vector, len(matrix[0])) or not is_solution(matrix, side, vector):
        return False
    return is_test_list(matrix, cost, moves) and first_standing(moves, vector) is None


def is_right(matrix, cost, side, answer):
    """Return whether a tuple that is not empty is a side answer."""
    kind = answer[0]
    if kind == "first" and len(answer) == 3:
        return shows_first(matrix, cost, side, answer[1], answer[2])
    if kind == "signs" and len(answer) == 2:
        return has_integers(answer[1], len(matrix)) and is_farkas_paper(matrix, side, answer[1])
    if kind == "rest" and len(answer) == 3:
        return (has_integers(answer[1], len(matrix)) and has_integers(answer[2:], 1)
                and is_rest_paper(matrix, side, answer[1], answer[2]))
    return kind == "hole" and len(answer) == 3 and is_hole_paper_of(matrix, side, answer[1:])


def is_side_answer(matrix, cost, side, answer):
    """Return whether a tuple is a side answer for a side."""
    check_asked(matrix, cost, side)
    return isinstance(answer, tuple) and len(answer) > 0 and is_right(matrix, cost, side, answer)


def shows(answer):
    """Return whether an answer shows that there are solutions: "first" or "none"."""
    return "first" if answer[0] == "first" else "none"


def same_side(matrix, cost, one, other):
    """Return the chains by the least test set from two solutions to one end.

    Return None if they have different images.
    """
    check_pointed(matrix)
    check_cost(matrix, cost)
    check_solution(matrix, one)
    check_solution(matrix, other)
    if image_of(matrix, one) != image_of(matrix, other):
        return None
    moves = least_test_set(matrix, cost)
    return way_down(moves, one)[1], way_down(moves, other)[1]
