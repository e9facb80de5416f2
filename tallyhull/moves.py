"""Moves between the solutions of one side, and going down by a list of them."""

from tallyhull.errors import NoAnswer, NotMoves, NotVector, TooLarge
from tallyhull.linear import fits, image_of, is_before
from tallyhull.matrices import check_cost, check_pointed, check_vector, has_integers
from tallyhull.signs import parts

LONGEST_CHAIN = 5000


def check_solution(matrix, vector):
    """Raise NotVector for what is no vector of integers from 0 on."""
    check_vector(matrix, vector)
    if min(vector) < 0:
        raise NotVector("an entry is less than 0")


def is_solution_pair(matrix, move):
    """Return whether something is a pair of two vectors of integers from 0 on."""
    if not isinstance(move, tuple) or len(move) != 2:
        return False
    return all(has_integers(vector, len(matrix[0])) and min(vector) >= 0 for vector in move)


def is_proper(matrix, cost, move):
    """Return whether something is a move of a pointed matrix and a cost."""
    if not is_solution_pair(matrix, move):
        return False
    head, tail = move
    if any(a > 0 and b > 0 for a, b in zip(head, tail)):
        return False
    return image_of(matrix, head) == image_of(matrix, tail) and is_before(cost, tail, head)


def is_move(matrix, cost, move):
    """Return whether a pair of tuples of integers is a move."""
    check_pointed(matrix)
    check_cost(matrix, cost)
    return is_proper(matrix, cost, move)


def check_listed(matrix, cost, moves):
    """Raise NotMoves if a list has something that is no move, or a move twice."""
    seen = {}
    for move in moves:
        if not is_proper(matrix, cost, move):
            raise NotMoves("the list has something that is no move")
        if move in seen:
            raise NotMoves("the list has a move twice")
        seen[move] = True


def check_moves(matrix, cost, moves):
    """Raise NotMoves for what is no list of different moves."""
    check_pointed(matrix)
    check_cost(matrix, cost)
    check_listed(matrix, cost, moves)


def proper_move(cost, vector):
    """Return the move of a null vector other than 0."""
    one, other = parts(vector)
    return (one, other) if is_before(cost, other, one) else (other, one)


def move_of(matrix, cost, vector):
    """Return the move of a vector of the null lattice."""
    check_pointed(matrix)
    check_cost(matrix, cost)
    check_vector(matrix, vector)
    if not any(vector) or any(image_of(matrix, vector)):
        raise NoAnswer("the vector is 0, or its image is not")
    return proper_move(cost, vector)


def after(move, vector):
    """Return what a move leads to."""
    return tuple(x - a + b for x, a, b in zip(vector, move[0], move[1]))


def check_before_move(matrix, cost, move, vector):
    """Raise the error for what is wrong first of a move and a solution."""
    check_pointed(matrix)
    check_cost(matrix, cost)
    check_solution(matrix, vector)
    check_listed(matrix, cost, [move])


def stands(matrix, cost, move, vector):
    """Return whether a move stands at a vector of integers from 0 on."""
    check_before_move(matrix, cost, move, vector)
    return fits(move[0], vector)


def led(matrix, cost, move, vector):
    """Return what a move leads to from a vector of integers from 0 on."""
    check_before_move(matrix, cost, move, vector)
    if not fits(move[0], vector):
        raise NoAnswer("the move does not stand")
    return after(move, vector)


def first_standing(moves, vector):
    """Return the index of the first move that stands at a vector, or None."""
    for k, move in enumerate(moves):
        if fits(move[0], vector):
            return k
    return None


def way_down(moves, vector):
    """Return the end of the way down from a vector, and the chain."""
    chain = []
    end = vector
    k = first_standing(moves, end)
    while k is not None:
        if len(chain) == LONGEST_CHAIN:
            raise TooLarge("the chain would have more than 5000 indexes")
        chain.append(k)
        end = after(moves[k], end)
        k = first_standing(moves, end)
    return end, chain


def check_way(matrix, cost, moves, vector):
    """Raise the error for what is wrong first of a list of moves and a solution."""
    check_pointed(matrix)
    check_cost(matrix, cost)
    check_solution(matrix, vector)
    check_listed(matrix, cost, moves)


def go_down(matrix, cost, moves, vector):
    """Return the end of the way down from a vector by a list of moves, and the chain."""
    check_way(matrix, cost, moves, vector)
    return way_down(moves, vector)


def walked(matrix, cost, moves, vector, chain):
    """Return what a row of indexes of moves leads to."""
    check_way(matrix, cost, moves, vector)
    found = vector
    for k in chain:
        if not 0 <= k < len(moves) or not fits(moves[k][0], found):
            raise NoAnswer("an index is that of no move, or the move does not stand")
        found = after(moves[k], found)
    return found
