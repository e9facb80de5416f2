"""Solutions, first solutions and Graver lists for the tests, found by looking at all there is."""

from functools import lru_cache
from itertools import product

from tallyhull.matrices import is_pointed
from tests.samples import POINTED, all_rows, columns_by_hand, dot, image_by_hand, mixed

# Pointed matrices of all forms, with entries so small that all vectors can be looked at.
SMALL = [matrix for matrix in POINTED + mixed(71, 90, -1, 3) if is_pointed(matrix)
         and max(abs(entry) for row in matrix for entry in row) <= 4]
# Pointed matrices whose Graver lists have at most 150 vectors.
LISTED = [matrix for matrix in POINTED + mixed(72, 90, 0, 2) + mixed(73, 40, -2, 2)
          if is_pointed(matrix) and matrix != ((9, 8, 7, 6, 5, 4),)]
WIDE = ((9, 8, 7, 6, 5, 4),)                                # 223 vectors in its Graver list
LIMIT = ((1, 1, 1, 2, 5, 6),)                               # 150
OVER = ((0, 1, 3, 4, 6, 6), (3, 5, 5, 6, 6, 6))             # 151
ALONE = [((1,),), ((2, 0, 1), (0, 3, 1), (0, 0, 5)), ((1,), (0,), (-4,)), ((2, 4), (1, 5))]


@lru_cache(maxsize=None)
def weight_by_hand(matrix):
    """A row whose product with each column is at least 1."""
    for most in range(1, 40):
        for row in all_rows(len(matrix), most):
            if all(dot(row, column) >= 1 for column in columns_by_hand(matrix)):
                return row
    raise ValueError(matrix)


@lru_cache(maxsize=None)
def solutions_by_hand(matrix, side):
    """All solutions of a side of a pointed matrix, ascending."""
    weight = weight_by_hand(matrix)
    columns = columns_by_hand(matrix)

    def found(k, left):
        if k == len(columns):
            return [] if any(left) else [()]
        most = dot(weight, left) // dot(weight, columns[k])
        return [(x,) + rest for x in range(most + 1)
                for rest in found(k + 1, tuple(a - x * b for a, b in zip(left, columns[k])))]

    return tuple(found(0, side))


def key_of(cost, vector):
    """What puts vectors in the order of [3]."""
    return dot(cost, vector), vector


def first_by_looking(matrix, cost, vector):
    """The first solution of the image of a vector."""
    every = solutions_by_hand(matrix, image_by_hand(matrix, vector))
    return min(every, key=lambda x: key_of(cost, x))


def is_under(one, other):
    """[40]: whether the first vector is below the other one."""
    return all(a == 0 or (a * b > 0 and abs(a) <= abs(b)) for a, b in zip(one, other))


def head_up(vector):
    """The vector or its opposite, the first entry that is not 0 being positive."""
    first = next((entry for entry in vector if entry), 1)
    return vector if first > 0 else tuple(-entry for entry in vector)


@lru_cache(maxsize=None)
def dependences_by_hand(matrix, most):
    """All dependences with entries of at most so much without sign."""
    return tuple(vector for vector in product(range(-most, most + 1), repeat=len(matrix[0]))
                 if any(vector) and not any(image_by_hand(matrix, vector)))


@lru_cache(maxsize=None)
def graver_by_hand(matrix, most):
    """The vectors of the Graver list with entries of at most so much without sign."""
    found = []
    for vector in sorted(dependences_by_hand(matrix, most), key=lambda x: sum(map(abs, x))):
        if not any(is_under(other, vector) for other in found):
            found.append(vector)
    return sorted(vector for vector in found if head_up(vector) == vector)


def plus(one, other):
    return tuple(a + b for a, b in zip(one, other))


def minus(one, other):
    return tuple(a - b for a, b in zip(one, other))


def stands_at(head, vector):
    return all(a <= b for a, b in zip(head, vector))


def move_by_hand(cost, vector):
    """The move of a dependence."""
    one = tuple(max(entry, 0) for entry in vector)
    other = tuple(max(-entry, 0) for entry in vector)
    return (one, other) if key_of(cost, other) < key_of(cost, one) else (other, one)


def costs_for(matrix, seed=0):
    """Some costs, that of zeros and such with equal prices among them."""
    many = len(matrix[0])
    return [(0,) * many, (1,) * many, tuple((k * k + seed) % 5 - 2 for k in range(many)),
            tuple((-1) ** (k + seed) * (k + 1) for k in range(many)),
            tuple(50 if k == seed % many else -50 for k in range(many))]


def wrong_calls(good, wrongs):
    """Calls with one or two wrong arguments, each with the error that is due.

    `wrongs` are triples of a place, a wrong value and its error, in the order of the document.
    """
    for at, (place, value, error) in enumerate(wrongs):
        once = list(good)
        once[place] = value
        yield tuple(once), error
        for other, second, _ in wrongs[at + 1:]:
            if other != place:
                twice = list(once)
                twice[other] = second
                yield tuple(twice), error


def check_errors(test, function, good, wrongs):
    """The errors of a function: of each wrong argument, and of two of them the one that is due."""
    for arguments, error in wrong_calls(good, wrongs):
        with test.subTest(function.__name__, arguments=arguments):
            with test.assertRaises(error):
                function(*arguments)
