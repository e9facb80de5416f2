"""The checker: what answers and papers show, by a reckoning of its own.

It imports its own modules alone, those that begin with `check`, and searches for nothing.
"""

from tallyhull.checkboxes import demand_few_looks, has_standing, head_of, is_box_cover
from tallyhull.checkboxes import is_move_list, is_reached_in, is_right_box
from tallyhull.checklists import demand_few, is_paper_list, is_right_walk
from tallyhull.checkrows import added, column_list, demand_cost, demand_matrix, demand_side
from tallyhull.checkrows import is_counting, is_divided, is_fraction, is_fraction_row, is_integer
from tallyhull.checkrows import is_row, is_tuple_of, over_one, picture, scalar


def is_told(answer, kind, many):
    """Return whether something is a tuple of a kind and so many other parts."""
    return is_tuple_of(answer, many + 1) and answer[0] == kind


def is_weight_row(matrix, row):
    """Return whether something is a weight."""
    return is_row(row, len(matrix)) and all(scalar(row, column) >= 1 for column in column_list(matrix))


def is_right_ring(matrix, vector):
    """Return whether something is a ring."""
    return is_counting(vector, len(matrix[0])) and any(vector) and not any(picture(matrix, vector))


def pointed_shown(matrix, answer):
    """Return what a pointed answer shows: "weight", "ring" or "none"."""
    demand_matrix(matrix)
    if is_told(answer, "weight", 1) and is_weight_row(matrix, answer[1]):
        return "weight"
    if is_told(answer, "ring", 1) and is_right_ring(matrix, answer[1]):
        return "ring"
    return "none"


def is_whole(matrix, side, vector):
    """Return whether something is a vector of any integers with a side as its image."""
    return is_row(vector, len(matrix[0])) and picture(matrix, vector) == side


def is_rest(matrix, side, row, m):
    """Return whether a row and a number are a rest paper of a side."""
    if not is_row(row, len(matrix)) or not is_integer(m) or m < 0 or m == 1:
        return False
    if not all(is_divided(m, scalar(row, column)) for column in column_list(matrix)):
        return False
    return not is_divided(m, scalar(row, side))


def lattice_shown(matrix, side, answer):
    """Return what a lattice answer shows: "whole", "rest" or "none"."""
    demand_matrix(matrix)
    demand_side(matrix, side)
    if is_told(answer, "whole", 1) and is_whole(matrix, side, answer[1]):
        return "whole"
    if is_told(answer, "rest", 2) and is_rest(matrix, side, answer[1], answer[2]):
        return "rest"
    return "none"


def is_filling(matrix, side, numbers):
    """Return whether something is a fraction solution of a side."""
    if not is_fraction_row(numbers, len(matrix[0])) or any(above < 0 for above, _ in numbers):
        return False
    entries, common = over_one(numbers)
    return picture(matrix, entries) == tuple(common * entry for entry in side)


def is_parting(matrix, side, row):
    """Return whether something is a Farkas paper of a side."""
    if not is_row(row, len(matrix)) or scalar(row, side) >= 0:
        return False
    return all(scalar(row, column) >= 0 for column in column_list(matrix))


def cone_shown(matrix, side, answer):
    """Return what a cone answer shows: "in", "out" or "none"."""
    demand_matrix(matrix)
    demand_side(matrix, side)
    if is_told(answer, "in", 1) and is_filling(matrix, side, answer[1]):
        return "in"
    if is_told(answer, "out", 1) and is_parting(matrix, side, answer[1]):
        return "out"
    return "none"


def graver_shown(matrix, vectors):
    """Return whether a list is accepted as a Graver paper."""
    demand_matrix(matrix)
    demand_few(vectors)
    return is_paper_list(matrix, vectors)


def is_list_of_boxes(matrix, boxes):
    """Return whether something is a list of boxes."""
    return isinstance(boxes, list) and all(is_right_box(matrix, box) for box in boxes)


def are_accepted(matrix, cost, papers):
    """Return whether something are papers of a matrix and a cost."""
    if not is_tuple_of(papers, 4):
        return False
    weight, vectors, moves, boxes = papers
    demand_few(vectors)
    if not is_move_list(matrix, cost, moves) or not is_list_of_boxes(matrix, boxes):
        return False
    demand_few_looks(moves, boxes, len(cost))
    if not is_weight_row(matrix, weight) or not is_paper_list(matrix, vectors):
        return False
    if not all(has_standing(moves, head_of(cost, vector)) for vector in vectors):
        return False
    return is_box_cover(moves, boxes, len(cost))


def papers_shown(matrix, cost, papers):
    """Return whether papers are accepted."""
    demand_matrix(matrix)
    demand_cost(matrix, cost)
    return are_accepted(matrix, cost, papers)


def is_first_shown(matrix, side, moves, vector):
    """Return whether something is a solution of a side at which no move of a list stands."""
    if not is_counting(vector, len(matrix[0])) or picture(matrix, vector) != side:
        return False
    return not has_standing(moves, vector)


def is_hole_shown(matrix, side, boxes, hole, vector):
    """Return whether a hole and a vector make a side of which no box has a vector."""
    if not is_row(hole, len(matrix)) or not is_counting(vector, len(matrix[0])):
        return False
    if added(hole, 1, picture(matrix, vector)) != side:
        return False
    return not any(is_reached_in(matrix, box, side) for box in boxes)


def is_none_shown(matrix, side, boxes, answer):
    """Return whether a side answer shows that a side has no solution."""
    if is_told(answer, "signs", 1):
        return is_parting(matrix, side, answer[1])
    if is_told(answer, "rest", 2):
        return is_rest(matrix, side, answer[1], answer[2])
    return is_told(answer, "hole", 2) and is_hole_shown(matrix, side, boxes, answer[1], answer[2])


def side_shown(matrix, cost, side, papers, answer):
    """Return what a side answer shows with papers: "first", "none" or "nothing"."""
    demand_matrix(matrix)
    demand_cost(matrix, cost)
    demand_side(matrix, side)
    if not are_accepted(matrix, cost, papers):
        return "nothing"
    _, _, moves, boxes = papers
    if is_told(answer, "first", 2) and is_first_shown(matrix, side, moves, answer[1]):
        return "first"
    return "none" if is_none_shown(matrix, side, boxes, answer) else "nothing"


def is_staying_below(matrix, cost, row):
    """Return whether something is a row of fractions that stays below a cost."""
    if not is_fraction_row(row, len(matrix)):
        return False
    entries, common = over_one(row)
    return all(scalar(entries, column) <= common * limit
               for column, limit in zip(column_list(matrix), cost))


def is_best(matrix, cost, side, paper):
    """Return whether something is an optimum paper of a side of any size."""
    if not is_tuple_of(paper, 2):
        return False
    numbers, row = paper
    if not is_filling(matrix, side, numbers) or not is_staying_below(matrix, cost, row):
        return False
    shares, below = over_one(numbers)
    entries, common = over_one(row)
    return scalar(cost, shares) * common == scalar(entries, side) * below


def optimum_shown(matrix, cost, side, paper):
    """Return whether an optimum paper is accepted."""
    demand_matrix(matrix)
    demand_cost(matrix, cost)
    demand_side(matrix, side)
    return is_best(matrix, cost, side, paper)


def is_lost(matrix, cost, number, solution, optimum):
    """Return whether the price of a solution is so much more than an optimum paper tells."""
    if not is_best(matrix, cost, picture(matrix, solution), optimum):
        return False
    shares, below = over_one(optimum[0])
    lost = scalar(cost, solution) * below - scalar(cost, shares)
    return lost * number[1] == number[0] * below


def is_list_of_pairs(matrix, pairs):
    """Return whether something is a list of pairs of a box and a row of fractions."""
    if not isinstance(pairs, list) or not all(is_tuple_of(pair, 2) for pair in pairs):
        return False
    return all(is_right_box(matrix, box) and is_fraction_row(row, len(matrix)) for box, row in pairs)


def limits_loss(matrix, cost, number, box, row):
    """Return whether a row of fractions shows that a box loses at most a number."""
    if not is_staying_below(matrix, cost, row):
        return False
    u, free = box
    entries, common = over_one(row)
    gaps = [common * limit - scalar(entries, column)
            for column, limit in zip(column_list(matrix), cost)]
    return not any(gaps[k] for k in free) and scalar(gaps, u) * number[1] <= number[0] * common


def loss_shown(matrix, cost, papers, paper, optimum):
    """Return the number that a loss paper shows, with papers and an optimum paper, or None."""
    demand_matrix(matrix)
    demand_cost(matrix, cost)
    if not are_accepted(matrix, cost, papers) or not is_tuple_of(paper, 3):
        return None
    moves = papers[2]
    number, solution, pairs = paper
    if not is_fraction(number) or not is_counting(solution, len(cost)):
        return None
    if not is_list_of_pairs(matrix, pairs):
        return None
    boxes = [box for box, _ in pairs]
    demand_few_looks(moves, boxes, len(cost))
    if has_standing(moves, solution) or not is_lost(matrix, cost, number, solution, optimum):
        return None
    if not all(limits_loss(matrix, cost, number, box, row) for box, row in pairs):
        return None
    return number if is_box_cover(moves, boxes, len(cost)) else None


def walk_shown(matrix, vectors, walk):
    """Return whether a walk by vectors of a Graver paper is accepted."""
    demand_matrix(matrix)
    demand_few(vectors)
    return is_paper_list(matrix, vectors) and is_right_walk(matrix, vectors, walk)
