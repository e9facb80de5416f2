"""Test sets: lists of moves that lead from each solution of each side to its first one."""

from heapq import heappop, heappush

from tallyhull.errors import NoAnswer, TooLarge
from tallyhull.graver import graver_or_raise
from tallyhull.linear import columns_of, dot, fits, is_before, less
from tallyhull.matrices import check_cost, check_pointed, found_weight
from tallyhull.meetings import connects, end_of, ends_at, meet, meeting_of, meeting_pairs
from tallyhull.moves import check_moves, first_standing, proper_move

MOST_COMPLETED = 400


def listed_moves(matrix, cost):
    """Return the list of the moves of the vectors of the Graver list, in its order."""
    return [proper_move(cost, vector) for vector in graver_or_raise(matrix)]


def graver_moves(matrix, cost):
    """Return the list of the moves of all vectors of the Graver list, by heads, then by tails."""
    check_pointed(matrix)
    check_cost(matrix, cost)
    return sorted(listed_moves(matrix, cost))


def first_fault(moves, wanted):
    """Return the first one of the wanted moves at whose head no move of a list stands, or None."""
    for move in wanted:
        if first_standing(moves, move[0]) is None:
            return move
    return None


def test_fault(matrix, cost, moves):
    """Return the first move of the Graver list at whose head no move of a list stands, or None."""
    check_moves(matrix, cost, moves)
    return first_fault(moves, sorted(listed_moves(matrix, cost)))


def is_test_set(matrix, cost, moves):
    """Return whether a list of moves is a test set."""
    return test_fault(matrix, cost, moves) is None


def least_heads(heads):
    """Return the ascending list of the heads within which no other one stands."""
    return [head for head in sorted(heads)
            if not any(fits(other, head) for other in heads if other != head)]


def least_of(cost, every):
    """Return the least test set out of the moves of all vectors of the Graver list."""
    tails = {}
    for head, tail in every:
        if head not in tails or is_before(cost, tail, tails[head]):
            tails[head] = tail
    # The difference of a least head and of the first solution of its side is in the Graver
    # list: so the tail that comes before the others of this head is this first solution.
    return [(head, tails[head]) for head in least_heads(list(tails))]


def least_test_set(matrix, cost):
    """Return the least test set, a list."""
    return least_of(cost, graver_moves(matrix, cost))


def is_least(matrix, cost, moves):
    """Return whether a list of moves is the least test set."""
    check_moves(matrix, cost, moves)
    return list(moves) == least_test_set(matrix, cost)


def test_paper(matrix, cost, moves):
    """Return the test paper with the least indexes, or None."""
    check_moves(matrix, cost, moves)
    found = [first_standing(moves, head) for head, _ in listed_moves(matrix, cost)]
    return None if None in found else tuple(found)


def is_shown_by(moves, k, head):
    """Return whether an index is that of a move that stands at a head."""
    return 0 <= k < len(moves) and fits(moves[k][0], head)


def is_test_paper(matrix, cost, moves, paper):
    """Return whether a tuple of integers is a test paper of a list of moves."""
    check_moves(matrix, cost, moves)
    wanted = listed_moves(matrix, cost)
    if len(paper) != len(wanted):
        return False
    return all(is_shown_by(moves, k, head) for k, (head, _) in zip(paper, wanted))


class Completion:
    """A list of moves with its meetings that have not been looked at, the lightest ones first.

    As the weights of the meetings ascend, no head of a move that is added stands within that
    of another one that is added: so there are no more of these than there are least heads.
    """

    def __init__(self, matrix, cost, moves):
        weight = found_weight(matrix)
        self.cost = cost
        self.weights = [dot(weight, column) for column in columns_of(matrix)]
        self.moves = list(moves)
        self.ends = {}
        self.queue = []
        for i, j in meeting_pairs(self.moves):
            self.put_by(i, j)

    def put_by(self, i, j):
        """Put by the meeting of two moves until it is its turn."""
        above = meeting_of(self.moves, i, j)[0]
        heappush(self.queue, (dot(self.weights, above), i, j))

    def take_in(self, move):
        """Add a move, and put by its meetings."""
        last = len(self.moves)
        if last == MOST_COMPLETED:
            raise TooLarge("the list would have more than 400 moves")
        self.moves.append(move)
        # Ways down that had an end may go on by the new move.
        self.ends = {}
        for i in range(last):
            if meet(self.moves, i, last):
                self.put_by(i, last)

    def grow(self):
        """Add the move of the difference of both ends, for the next meeting that is not good."""
        one = other = None
        while one == other:
            _, i, j = heappop(self.queue)
            one, other = ends_at(self.moves, i, j, self.ends)
        self.take_in(proper_move(self.cost, less(one, 1, other)))


def completed(matrix, cost, moves):
    """Return the least test set to which a list of moves is completed."""
    if not connects(matrix, cost, moves):
        raise NoAnswer("the list does not connect the matrix")
    if len(moves) > MOST_COMPLETED:
        raise TooLarge("the list has more than 400 moves")
    wanted = listed_moves(matrix, cost)
    completion = Completion(matrix, cost, moves)
    # A list that connects the matrix and is no test set has a meeting that is not good.
    while first_fault(completion.moves, wanted) is not None:
        completion.grow()
    heads = {move[0]: True for move in completion.moves}
    return [(head, end_of(completion.moves, head, {})) for head in least_heads(list(heads))]
