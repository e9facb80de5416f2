"""Meetings of moves, walks by moves, and whether a list of moves connects the matrix."""

from tallyhull.errors import BadNumber, TooLarge
from tallyhull.graver import graver_or_raise
from tallyhull.linear import fits, image_of, less
from tallyhull.matrices import check_cost, check_pointed
from tallyhull.moves import LONGEST_CHAIN, after, check_listed, check_moves, check_solution
from tallyhull.moves import first_standing, proper_move

MOST_MET = 2000


def meet(moves, i, j):
    """Return whether the heads of two moves have a common column."""
    return any(a > 0 and b > 0 for a, b in zip(moves[i][0], moves[j][0]))


def meeting_of(moves, i, j):
    """Return the meeting of two moves."""
    above = tuple(max(a, b) for a, b in zip(moves[i][0], moves[j][0]))
    return above, after(moves[i], above), after(moves[j], above)


def meeting_pairs(moves):
    """Return the list of the pairs of indexes of all meetings, in order."""
    many = len(moves)
    return [(i, j) for i in range(many) for j in range(i + 1, many) if meet(moves, i, j)]


def meetings(matrix, cost, moves):
    """Return the list of all meetings, each behind the indexes of its moves."""
    check_moves(matrix, cost, moves)
    return [(i, j) + meeting_of(moves, i, j) for i, j in meeting_pairs(moves)]


def end_of(moves, vector, ends):
    """Return the end of the way down from a vector.

    The ends that are known, each with the length of its chain, are kept: ways down
    from meetings run together soon.
    """
    passed = []
    here = vector
    while here not in ends:
        k = first_standing(moves, here)
        if k is None:
            ends[here] = (here, 0)
        else:
            passed.append(here)
            here = after(moves[k], here)
        if len(passed) > LONGEST_CHAIN:
            break
    end, length = ends.get(here, (here, 0))
    if length + len(passed) > LONGEST_CHAIN:
        raise TooLarge("the chain would have more than 5000 indexes")
    for before in reversed(passed):
        length = length + 1
        ends[before] = (end, length)
    return end


def ends_at(moves, i, j, ends):
    """Return the ends of both ways down from the meeting of two moves."""
    _, one, other = meeting_of(moves, i, j)
    return end_of(moves, one, ends), end_of(moves, other, ends)


def is_good(matrix, cost, moves, i, j):
    """Return whether the meeting of two moves is good, or there is none."""
    check_moves(matrix, cost, moves)
    if not 0 <= i < j < len(moves):
        raise BadNumber("these are not the indexes of two moves, the less one first")
    if not meet(moves, i, j):
        return True
    one, other = ends_at(moves, i, j, {})
    return one == other


def bad_meeting(matrix, cost, moves):
    """Return the first pair of indexes whose meeting is not good, or None."""
    check_moves(matrix, cost, moves)
    ends = {}
    for i, j in meeting_pairs(moves):
        one, other = ends_at(moves, i, j, ends)
        if one != other:
            return i, j
    return None


def ways_of(moves):
    """Return what each move takes away and adds, with its index and its way, also backwards."""
    found = []
    for k, (head, tail) in enumerate(moves):
        found.append((head, less(tail, 1, head), k, 1))
        found.append((tail, less(head, 1, tail), k, -1))
    return found


def way_back(reached, vector):
    """Return the list of the pairs of an index and a way that led to a vector."""
    found = []
    here = vector
    while reached[here] is not None:
        before, k, way = reached[here]
        found.append((k, way))
        here = before
    return found[::-1]


def next_to(ways, vector):
    """Return what is one step away from a vector, with the index of the move and the way."""
    return [(less(vector, -1, change), k, way) for taken, change, k, way in ways
            if fits(taken, vector)]


def next_layer(ways, layer, reached, wanted):
    """Return what is met for the first time from a layer of vectors, and note how it was reached.

    Nothing more is looked for once the wanted vector is met.
    """
    found = []
    for here in layer:
        for vector, k, way in next_to(ways, here):
            if vector not in reached:
                reached[vector] = (here, k, way)
                found.append(vector)
                if len(reached) > MOST_MET:
                    raise TooLarge("more than 2000 vectors are met")
                if vector == wanted:
                    return found
    return found


def shortest_walk(moves, one, other):
    """Return a shortest walk from a vector to another one with the same image, or None."""
    ways = ways_of(moves)
    reached = {one: None}
    layer = [one]
    while layer and other not in reached:
        layer = next_layer(ways, layer, reached, other)
    return way_back(reached, other) if other in reached else None


def walk_between(matrix, cost, moves, one, other):
    """Return a shortest walk by moves and moves backwards between two vectors, or None."""
    check_pointed(matrix)
    check_cost(matrix, cost)
    check_solution(matrix, one)
    check_solution(matrix, other)
    check_listed(matrix, cost, moves)
    if image_of(matrix, one) != image_of(matrix, other):
        return None
    return shortest_walk(moves, one, other)


def connects(matrix, cost, moves):
    """Return whether a list of moves connects the matrix."""
    check_moves(matrix, cost, moves)
    wanted = [proper_move(cost, vector) for vector in graver_or_raise(matrix)]
    return all(shortest_walk(moves, head, tail) is not None for head, tail in wanted)
