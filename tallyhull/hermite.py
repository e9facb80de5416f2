"""Stairs forms of the lattices of tuples of integers."""

from tallyhull.errors import BadNumber
from tallyhull.linear import coordinates_of, null_of, stairs_of

MOST_TUPLES = 40
MOST_ENTRIES = 6


def width_of(vectors):
    """Return how many entries each of the tuples has, 0 for no tuples, or raise BadNumber."""
    if len(vectors) > MOST_TUPLES:
        raise BadNumber("there are more than 40 tuples")
    if not vectors:
        return 0
    many = len(vectors[0])
    if not 1 <= many <= MOST_ENTRIES:
        raise BadNumber("a tuple has one to six entries")
    if any(len(vector) != many for vector in vectors):
        raise BadNumber("the tuples have not equally many entries")
    return many


def stairs(vectors):
    """Return the tuple in stairs form with the same lattice."""
    return stairs_of(vectors, width_of(vectors))


def rank(vectors):
    """Return the rank of a list of tuples."""
    return len(stairs(vectors))


def is_stairs(vectors):
    """Return whether the tuples, in their order, are in stairs form."""
    # Each lattice has exactly one tuple in stairs form, so it can only be this one.
    return stairs(vectors) == tuple(vectors)


def coordinates(vectors, vector):
    """Return the coordinates of a tuple by tuples in stairs form, or None."""
    if not is_stairs(vectors):
        raise BadNumber("the tuples are not in stairs form")
    if vectors and len(vector) != len(vectors[0]):
        raise BadNumber("the tuple has not as many entries as the others")
    return coordinates_of(vectors, vector)


def orthogonal(vectors, many):
    """Return the stairs form of all tuples of so many integers with all products 0."""
    width = width_of(vectors)
    if not 1 <= many <= MOST_ENTRIES:
        raise BadNumber("a tuple has one to six entries")
    if vectors and width != many:
        raise BadNumber("the tuples have another number of entries")
    return null_of(vectors, many)
