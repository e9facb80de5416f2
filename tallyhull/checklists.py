"""The checker's own look at lists of dependences: Graver papers and walks by them."""

from tallyhull.checkrows import added, column_list, is_counting, is_dependent, is_row, turned
from tallyhull.errors import TooLarge

MOST_VECTORS = 200


def demand_few(vectors):
    """Raise TooLarge for a list of more than 200 vectors."""
    if isinstance(vectors, list) and len(vectors) > MOST_VECTORS:
        raise TooLarge("there are more than 200 vectors")


def least_first(rows, place):
    """Return rows in the order of their entries at a place, without signs."""
    return sorted(rows, key=lambda row: abs(row[place]))


def cleared(rows, place):
    """Return the rows of a lattice with 0 at a place, as many as tell them all."""
    busy = [row for row in rows if row[place] != 0]
    rest = [row for row in rows if row[place] == 0]
    while len(busy) > 1:
        busy = least_first(busy, place)
        lead = busy[0]
        left = [added(row, -(row[place] // lead[place]), lead) for row in busy[1:]]
        rest = rest + [row for row in left if row[place] == 0]
        busy = [lead] + [row for row in left if row[place] != 0]
    return rest


def null_rows(matrix):
    """Return a basis of the null lattice."""
    height = len(matrix)
    many = len(matrix[0])
    rows = [column + tuple(1 if k == at else 0 for k in range(many))
            for at, column in enumerate(column_list(matrix))]
    for place in range(height):
        rows = cleared(rows, place)
    return [row[height:] for row in rows]


def signs_of(vector):
    """Return where the entries of a vector are positive and where negative, as bits."""
    found = 0
    for k, entry in enumerate(vector):
        if entry > 0:
            found = found | (1 << 2 * k)
        if entry < 0:
            found = found | (2 << 2 * k)
    return found


def both_ways(vectors):
    """Return pairs of each vector of a list, and each opposite, and of its signs."""
    every = list(vectors) + [turned(vector) for vector in vectors]
    return [(vector, signs_of(vector)) for vector in every]


def often_below(one, other):
    """Return how often a vector can be taken from another one that has its signs."""
    return min([b // a if a > 0 else -b // -a for a, b in zip(one, other) if a != 0])


def comes_to_zero(steps, vector):
    """Return whether a vector goes down to 0 by steps, pairs as `both_ways` tells them."""
    signs = signs_of(vector)
    left = vector
    # What cannot be taken once more cannot be taken later: one round is enough.
    for step, marks in steps:
        if marks | signs == signs:
            times = often_below(step, left)
            if times > 0:
                left = added(left, -times, step)
                if not any(left):
                    return True
    return not any(left)


def all_sums_come_to_zero(vectors):
    """Return whether the sum and the difference of each two vectors goes down to 0."""
    steps = both_ways(vectors)
    signs = [signs_of(vector) for vector in vectors]
    turns = [signs_of(turned(vector)) for vector in vectors]
    for at, one in enumerate(vectors):
        for other in range(at):
            # Without signs against each other both lie below what they make.
            if signs[at] & turns[other] and not comes_to_zero(steps, added(one, 1, vectors[other])):
                return False
            if signs[at] & signs[other] and not comes_to_zero(steps, added(one, -1, vectors[other])):
                return False
    return True


def is_paper_list(matrix, vectors):
    """Return whether something is a Graver paper of at most 200 vectors."""
    many = len(matrix[0])
    if not isinstance(vectors, list):
        return False
    if not all(is_row(vector, many) and is_dependent(matrix, vector) for vector in vectors):
        return False
    seen = {}
    for vector in vectors:
        if vector in seen:
            return False
        seen[vector] = True
        seen[turned(vector)] = True
    steps = both_ways(vectors)
    if not all(comes_to_zero(steps, row) for row in null_rows(matrix)):
        return False
    return all_sums_come_to_zero(vectors)


def is_right_walk(matrix, vectors, walk):
    """Return whether something is a walk by vectors of a list and their opposites."""
    many = len(matrix[0])
    if not isinstance(walk, list) or not walk:
        return False
    if not all(is_counting(vector, many) for vector in walk):
        return False
    steps = {vector: True for vector, _ in both_ways(vectors)}
    return all(added(two, -1, one) in steps for one, two in zip(walk, walk[1:]))
