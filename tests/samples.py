"""Matrices for the tests, and reckonings of their own to compare with."""

from fractions import Fraction
from functools import lru_cache
from itertools import combinations, product
from math import gcd
from random import Random

TWISTED = ((1, 1, 1, 1), (0, 1, 2, 3))      # the matrix of [6]
SLOPED = ((2, 4), (1, 5))                   # the second matrix of [26]
GAPPED = ((1, 1, 1), (0, 1, 3))             # the matrix of [37]
FLAT = ((1, 2), (2, 4))                     # the second matrix of [37]

# Ranks 1 to 3, dependent rows, equal columns, and columns that are multiples of others.
POINTED = [
    TWISTED, SLOPED, GAPPED, FLAT,
    ((1,),), ((-3,),), ((9,),), ((2, 3),), ((-2, -4, -6),), ((1, 1, 1),), ((9, 8, 7, 6, 5, 4),),
    ((0, 2),  (3, 0)), ((1,), (2,)), ((0,), (5,)), ((0, 0), (2, 3)), ((1, 2, 3), (0, 0, 0)),
    ((1, 2, 1, 2), (1, 2, 3, 6)), ((1, 1, 2, 3), (1, 1, 0, 0)), ((3, 0, 3), (1, 2, 1)),
    ((1, 0, 1, -1), (0, 1, 1, 3)), ((5, -2, 1), (-1, 1, 0)),
    ((1,), (0,), (-4,)), ((0, 0), (0, 0), (1, 3)), ((1, 2), (-1, -2), (3, 6)),
    ((1, 2, 3), (2, 4, 6), (0, 1, 5)), ((1, 1, 1, 1), (0, 1, 2, 3), (1, 2, 3, 4)),
    ((0, 1, 1), (0, 1, 1), (1, 0, 2)), ((1, 0, 2), (2, 0, 4), (0, 1, 0)),
    ((1, 0, 0), (0, 1, 0), (0, 0, 1)), ((2, 0, 1), (0, 3, 1), (0, 0, 5)),
    ((1, 1, 1, 1), (0, 1, 0, 1), (0, 0, 1, 1)), ((1, 1, 1, 1, 2), (0, 1, 0, 1, 1), (0, 0, 1, 1, 1)),
    ((1, 1, 1, 1, 1, 1), (0, 1, 2, 0, 1, 0), (0, 0, 0, 1, 1, 2)),
    ((1, 2, 1, 1, 3, 1), (0, 0, 1, 2, 0, 1), (0, 0, 0, 0, 0, 1)),
    ((9, -9, 1), (0, 9, 2), (1, 1, 9)), ((1, 0, 0, 1), (0, 1, 0, -1), (0, 0, 1, 1)),
]

RINGED = [
    ((0,),), ((1, -2),), ((1, 0),), ((3, 5, 0, 2),), ((0, 0), (0, 0)), ((0, 0), (0, 0), (0, 0)),
    ((1, -1), (0, 0)), ((1, -2), (2, -4)), ((1, 0, -1), (0, 1, -1)), ((1, 2, 0), (3, 4, 0)),
    ((1, 1, -1, -1), (1, -1, 1, -1)), ((1, -3, 5), (-2, 6, 1)), ((2, 1, -3, 4), (0, 1, -1, 4)),
    ((1, 0, 0, -1), (0, 1, 0, -1), (0, 0, 1, -1)), ((1, 2, -3), (2, 4, -6), (3, 6, -9)),
    ((1, 0, 2, -1), (0, 1, 1, -1), (1, 1, 3, -2)), ((7, -9, 2, 1, 0, 3), (5, -8, 1, 0, 0, 2)),
    ((1, -9, 0, 0), (0, 1, -9, 0), (0, 0, 1, -9)),
]

NO_MATRIX = [
    (), ((),), ((), ()), ((1, 2), (3,)), ((1,), (2, 3)), ((1, 2), (3, 4), (5, 6, 7)), ((1, 2), ()),
    ((1,), (1,), (1,), (1,)), ((1, 1, 1, 1, 1, 1, 1),), ((10,),), ((-10,),), ((1, 2), (3, 10)),
    ((1, 2), (-10, 4)), ((0,), (0,), (10 ** 30,)),
]


def mixed(seed, many, low, high):
    """Matrices of all sizes by a fixed seed."""
    source = Random(seed)
    found = []
    for _ in range(many):
        height = source.randint(1, 3)
        width = source.randint(1, 6)
        found.append(tuple(tuple(source.randint(low, high) for _ in range(width))
                           for _ in range(height)))
    return found


def dot(one, other):
    return sum(a * b for a, b in zip(one, other))


def columns_by_hand(matrix):
    return [tuple(row[k] for row in matrix) for k in range(len(matrix[0]))]


def image_by_hand(matrix, vector):
    return tuple(dot(row, vector) for row in matrix)


def has_small_ring(matrix, most):
    """Whether a ring has entries of at most so much."""
    width = len(matrix[0])
    return any(any(vector) and not any(image_by_hand(matrix, vector))
               for vector in product(range(most + 1), repeat=width))


def rank_by_fractions(vectors):
    """The rank by elimination with fractions."""
    rows = [[Fraction(entry) for entry in vector] for vector in vectors]
    rank = 0
    for place in range(len(rows[0]) if rows else 0):
        pivot = next((k for k in range(rank, len(rows)) if rows[k][place]), None)
        if pivot is None:
            continue
        rows[rank], rows[pivot] = rows[pivot], rows[rank]
        for k in range(rank + 1, len(rows)):
            times = rows[k][place] / rows[rank][place]
            rows[k] = [a - times * b for a, b in zip(rows[k], rows[rank])]
        rank += 1
    return rank


def determinant(square):
    if not square:
        return 1
    return sum((-1) ** k * square[0][k] * determinant([row[:k] + row[k + 1:] for row in square[1:]])
               for k in range(len(square)))


def minors_divisor(vectors, size):
    """The greatest common divisor of all minors of a size: the same for each lattice's lists."""
    common = 0
    for rows in combinations(vectors, size):
        for places in combinations(range(len(vectors[0])), size):
            common = gcd(common, determinant([tuple(row[k] for k in places) for row in rows]))
    return common


def all_rows(many, most):
    """All tuples of so many integers without sign at most so much."""
    return product(range(-most, most + 1), repeat=many)


def holding(matrix, most):
    """The rows that hold and have entries without sign at most so much."""
    columns = columns_by_hand(matrix)
    return [row for row in all_rows(len(matrix), most)
            if all(dot(row, column) >= 0 for column in columns)]


def sides_near(matrix, most):
    """All sides with entries without sign at most so much."""
    return list(all_rows(len(matrix), most))


def solved_by_fractions(columns, side):
    """The fractions by which independent columns add up to a side, or None."""
    many = len(columns)
    rows = [[Fraction(column[k]) for column in columns] + [Fraction(side[k])]
            for k in range(len(side))]
    for place in range(many):
        pivot = next(k for k in range(place, len(rows)) if rows[k][place])
        rows[place], rows[pivot] = rows[pivot], rows[place]
        rows[place] = [entry / rows[place][place] for entry in rows[place]]
        for k in range(len(rows)):
            if k != place:
                times = rows[k][place]
                rows[k] = [a - times * b for a, b in zip(rows[k], rows[place])]
    if any(row[many] for row in rows[many:]):
        return None
    return [row[many] for row in rows[:many]]


@lru_cache(maxsize=None)
def bases_by_hand(matrix):
    """All ascending tuples of indexes of as many independent columns as the rank."""
    columns = columns_by_hand(matrix)
    size = rank_by_fractions(columns)
    return [places for places in combinations(range(len(columns)), size)
            if rank_by_fractions([columns[k] for k in places]) == size]


@lru_cache(maxsize=None)
def first_by_hand(matrix, side):
    """The first base of a side and its fractions, or None."""
    columns = columns_by_hand(matrix)
    for places in bases_by_hand(matrix):
        found = solved_by_fractions([columns[k] for k in places], side)
        if found is not None and min(found) >= 0:
            return places, found
    return None
