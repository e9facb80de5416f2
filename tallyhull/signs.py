"""Vectors and their signs: what is below another one, parts, and going down."""

from tallyhull.errors import BadNumber
from tallyhull.linear import less, opposite_of, step_of


def lies_below(one, other):
    """Return whether the first of two vectors of one length is below the other one."""
    return all(a == 0 or 0 < a <= b or b <= a < 0 for a, b in zip(one, other))


def is_below(one, other):
    """Return whether the first vector is below the other one."""
    if len(one) != len(other):
        raise BadNumber("the vectors have different lengths")
    return lies_below(one, other)


def parts(vector):
    """Return the pair of the parts of a vector."""
    return tuple(max(0, entry) for entry in vector), tuple(max(0, -entry) for entry in vector)


def opposite(vector):
    """Return the vector with all signs turned."""
    return opposite_of(vector)


def headed(vector):
    """Return the vector or its opposite, the first entry that is not 0 being positive."""
    place = step_of(vector)
    if place is not None and vector[place] < 0:
        return opposite_of(vector)
    return vector


def support(vector):
    """Return the ascending tuple of the indexes of the entries that are not 0."""
    return tuple(k for k, entry in enumerate(vector) if entry != 0)


def times_below(one, other):
    """Return how often a vector can be taken from another one, being below what is left each time.

    The number is negative if it is the opposite of the vector that can be taken.
    """
    place = step_of(one)
    if place is None or len(one) != len(other):
        return 0
    sign = 1 if one[place] * other[place] > 0 else -1
    return sign * max(0, min(sign * b // a for a, b in zip(one, other) if a != 0))


def takings(vectors, vector):
    """Return how often which vectors are taken on the way down, and what is left at last.

    The first are pairs of an index and of a number, which is negative for the opposite.
    """
    found = []
    left = vector
    # What is not below what is left is not below what is left later: one round is enough.
    for k, row in enumerate(vectors):
        times = times_below(row, left)
        if times != 0:
            found.append((k, times))
            left = less(left, times, row)
            if not any(left):
                break
    return found, left


def down(vectors, vector):
    """Return the list of what is taken on the way down from a vector, and what is left."""
    found, left = takings(vectors, vector)
    taken = []
    for k, times in found:
        mark = k + 1 if times > 0 else -(k + 1)
        taken.extend([mark] * abs(times))
    return taken, left
