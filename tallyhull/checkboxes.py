"""The checker's own look at moves, and at boxes of vectors at which none of them stands."""

from tallyhull.checkrows import column_list, is_counting, is_earlier, is_row, is_tuple_of, picture
from tallyhull.checkrows import added, times_for, turned
from tallyhull.errors import TooLarge

MOST_LOOKED_AT = 100000


def is_right_move(matrix, cost, move):
    """Return whether something is a move of a matrix and a cost."""
    many = len(matrix[0])
    if not is_tuple_of(move, 2) or not all(is_counting(vector, many) for vector in move):
        return False
    head, tail = move
    if any(a > 0 and b > 0 for a, b in zip(head, tail)):
        return False
    return picture(matrix, head) == picture(matrix, tail) and is_earlier(cost, tail, head)


def is_move_list(matrix, cost, moves):
    """Return whether something is a list of different moves."""
    if not isinstance(moves, list):
        return False
    if not all(is_right_move(matrix, cost, move) for move in moves):
        return False
    return len({move: True for move in moves}) == len(moves)


def stands_at(head, vector):
    """Return whether no entry of a head is greater than that of a vector."""
    return all(a <= b for a, b in zip(head, vector))


def has_standing(moves, vector):
    """Return whether some move of a list stands at a vector."""
    return any(stands_at(head, vector) for head, _ in moves)


def head_of(cost, vector):
    """Return the head of the move of a dependence."""
    one = tuple(max(0, entry) for entry in vector)
    other = tuple(max(0, -entry) for entry in vector)
    return one if is_earlier(cost, other, one) else other


def is_right_box(matrix, box):
    """Return whether something is a box of a matrix."""
    many = len(matrix[0])
    if not is_tuple_of(box, 2) or not is_counting(box[0], many):
        return False
    u, free = box
    if not isinstance(free, tuple) or not is_row(free, len(free)):
        return False
    if not all(0 <= k < many and u[k] == 0 for k in free):
        return False
    return all(a < b for a, b in zip(free, free[1:]))


def tops_of(moves, boxes, many):
    """Return for each column what is 1 more than all entries of heads and boxes there."""
    rows = [head for head, _ in moves] + [u for u, _ in boxes]
    return [1 + max([row[k] for row in rows], default=0) for k in range(many)]


def demand_few_looks(moves, boxes, many):
    """Raise TooLarge if more than 100000 vectors would be looked at."""
    looks = 1
    for top in tops_of(moves, boxes, many):
        looks = looks * (top + 1)
    if looks > MOST_LOOKED_AT:
        raise TooLarge("more than 100000 vectors would be looked at")


def is_clear(moves, box):
    """Return whether a box has no vector at which a move stands."""
    u, free = box
    bound = [k for k in range(len(u)) if k not in free]
    return not any(all(head[k] <= u[k] for k in bound) for head, _ in moves)


def marks_of(moves, boxes, k, top):
    """Return which moves may stand, and which boxes have vectors, with an entry at a column.

    Both are told by the bits of a number, for each entry up to the top; like ones are told once.
    """
    around = {}
    always = 0
    for at, (u, free) in enumerate(boxes):
        if k in free:
            always = always | (1 << at)
        else:
            around[u[k]] = around.get(u[k], 0) | (1 << at)
    found = {}
    for entry in range(top + 1):
        standing = sum(1 << at for at, (head, _) in enumerate(moves) if head[k] <= entry)
        found[standing, always | around.get(entry, 0)] = True
    return list(found)


def covers_all(moves, boxes, many):
    """Return whether each vector with small entries has a move that stands, or a box around it."""
    # Vectors with the same moves and boxes up to a column go on alike.
    layer = {((1 << len(moves)) - 1, (1 << len(boxes)) - 1): True}
    for k, top in enumerate(tops_of(moves, boxes, many)):
        told = marks_of(moves, boxes, k, top)
        layer = {(standing & more, around & others): True
                 for standing, around in layer for more, others in told}
    return (0, 0) not in layer


def is_box_cover(moves, boxes, many):
    """Return whether boxes are such a list as the papers have it."""
    return all(is_clear(moves, box) for box in boxes) and covers_all(moves, boxes, many)


def is_reached_in(matrix, box, side):
    """Return whether a box, with independent free columns, has a vector whose image is a side."""
    u, free = box
    columns = column_list(matrix)
    left = added(side, 1, turned(picture(matrix, u)))
    return times_for([columns[k] for k in free], left) is not None
