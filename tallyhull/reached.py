"""How many sides are solved, in the cone and the lattice, or holes, level by level.

A polynomial is a dict of the numbers that stand before its powers, 0 where there is none.
"""

from tallyhull.errors import BadNumber, NoAnswer, TooLarge
from tallyhull.graver import graver_of, graver_or_raise
from tallyhull.holeboxes import MOST_LISTED, all_holes, vectors_to
from tallyhull.holes import low_sides_of
from tallyhull.linear import columns_of, dot, fits, less, opposite_of, step_of
from tallyhull.matrices import check_pointed, is_weight
from tallyhull.signs import parts, support

GREATEST_STRIDE = 60
GREATEST_LEVEL = 300
MOST_LOW = 60
MOST_CORNERS = 40
# Where no difference of two low sides limits the Graver list, only time does.
MOST_ALONE = 5000


def strides(matrix, weight):
    """Return the list of the strides, in the order of the columns."""
    check_pointed(matrix)
    if not is_weight(matrix, weight):
        raise BadNumber("the tuple is no weight")
    found = [dot(weight, column) for column in columns_of(matrix)]
    if max(found) > GREATEST_STRIDE:
        raise BadNumber("a stride is greater than 60")
    return found


def least_among(vectors):
    """Return those of some vectors above which no other one is, or raise TooLarge.

    With ascending sums none comes behind one that is above it.
    """
    every = {vector: True for vector in vectors}
    found = []
    for vector in sorted(every, key=sum):
        if not any(fits(other, vector) for other in found):
            found.append(vector)
        if len(found) > MOST_CORNERS:
            raise TooLarge("a list has more than 40 corners")
    return sorted(found)


def is_ahead(vector):
    """Return whether a vector comes behind zeros by the cost of zeros."""
    place = step_of(vector)
    return place is not None and vector[place] > 0


def heads_of(vectors):
    """Return the list of the heads, by the cost of zeros, of vectors that come behind zeros."""
    return [parts(vector)[0] for vector in vectors if is_ahead(vector)]


def plus_times(one, times, power, other):
    """Return a polynomial plus so many times another one that is multiplied by a power."""
    found = {k: one[k] for k in one}
    for k in other:
        found[k + power] = found.get(k + power, 0) + times * other[k]
    return {k: found[k] for k in found if found[k] != 0}


def lifted_over(corners, vector):
    """Return the corners less a vector, as far as they are above it, the least ones."""
    return least_among([tuple(max(0, a - b) for a, b in zip(corner, vector)) for corner in corners])


def are_apart(corners):
    """Return whether no two corners have a column in common."""
    seen = {}
    for corner in corners:
        for k in support(corner):
            if k in seen:
                return False
            seen[k] = True
    return True


def top_by(lengths, corners):
    """Return the top of the vectors above none of some corners, with strides as lengths.

    What is above the last corner alone is counted out: it is this corner and a vector that is
    above none of the others, less this corner.
    """
    if are_apart(corners):
        found = {0: 1}
        for corner in corners:
            found = plus_times(found, -1, dot(lengths, corner), found)
        return found
    last = corners[-1]
    others = corners[:-1]
    inner = top_by(lengths, lifted_over(others, last))
    return plus_times(top_by(lengths, others), -1, dot(lengths, last), inner)


def solved_by(lengths, listed):
    """Return the top of the solved sides by the Graver list."""
    return top_by(lengths, least_among(heads_of(listed)))


def low_ones(matrix):
    """Return the ascending list of the low sides, or raise TooLarge for more than 60."""
    lows = low_sides_of(matrix)
    if len(lows) > MOST_LOW:
        raise TooLarge("there are more than 60 low sides")
    return lows


def listed_with(matrix, lows):
    """Return the Graver list of a matrix with these low sides, or raise TooLarge."""
    # With the difference of two low sides as a column more the list is as long, or longer.
    listed = graver_of(matrix, MOST_LISTED if len(lows) > 1 else MOST_ALONE)
    if listed is None:
        raise TooLarge("the Graver list is too long")
    return listed


def heads_behind(matrix, lows, listed):
    """Return for each low side heads that tell where a pair with it is not the first one.

    With f and x, f + A x is the side of another low side and of x less z, for each z whose image
    is the other low side less f. It comes ahead of x if z comes behind zeros.
    """
    found = [heads_of(listed) for _ in lows]
    kept = {}
    for high in range(len(lows)):
        for low in range(high):
            side = less(lows[high], 1, lows[low])
            if side not in kept:
                kept[side] = vectors_to(matrix, side)
            found[low].extend(heads_of(kept[side]))
            found[high].extend(heads_of([opposite_of(vector) for vector in kept[side]]))
    return found


def inner_by(matrix, weight, lows, listed):
    """Return the top of the inner sides by the low sides and the Graver list."""
    lengths = strides(matrix, weight)
    total = {}
    for side, heads in zip(lows, heads_behind(matrix, lows, listed)):
        total = plus_times(total, 1, dot(weight, side), top_by(lengths, least_among(heads)))
    return total


def as_list(top):
    """Return the list of the numbers before all powers of a polynomial."""
    return [top.get(k, 0) for k in range(max(top, default=-1) + 1)]


def solved_top(matrix, weight):
    """Return the top of the solved sides, a list."""
    lengths = strides(matrix, weight)
    return as_list(solved_by(lengths, graver_or_raise(matrix)))


def inner_top(matrix, weight):
    """Return the top of the inner sides, a list."""
    strides(matrix, weight)
    lows = low_ones(matrix)
    return as_list(inner_by(matrix, weight, lows, listed_with(matrix, lows)))


def hole_top(matrix, weight):
    """Return the top of the holes, a list."""
    lengths = strides(matrix, weight)
    lows = low_ones(matrix)
    listed = listed_with(matrix, lows)
    inner = inner_by(matrix, weight, lows, listed)
    return as_list(plus_times(inner, -1, 0, solved_by(lengths, listed)))


def check_level(n):
    """Raise BadNumber for what is no last level."""
    if not 0 <= n <= GREATEST_LEVEL:
        raise BadNumber("n is not from 0 to 300")


def numbers_by(top, lengths, n):
    """Return the list of the numbers before the powers 0 to n of a top divided by its product."""
    found = (top + [0] * (n + 1))[:n + 1]
    for length in lengths:
        for k in range(length, n + 1):
            found[k] = found[k] + found[k - length]
    return found


def solved_numbers(matrix, weight, n):
    """Return the list of the numbers of the solved sides with the levels 0 to n."""
    lengths = strides(matrix, weight)
    check_level(n)
    return numbers_by(solved_top(matrix, weight), lengths, n)


def inner_numbers(matrix, weight, n):
    """Return the list of the numbers of the inner sides with the levels 0 to n."""
    lengths = strides(matrix, weight)
    check_level(n)
    return numbers_by(inner_top(matrix, weight), lengths, n)


def hole_numbers(matrix, weight, n):
    """Return the list of the numbers of the holes with the levels 0 to n."""
    lengths = strides(matrix, weight)
    check_level(n)
    return numbers_by(hole_top(matrix, weight), lengths, n)


def last_level(matrix, weight):
    """Return the greatest level of a hole, -1 for no holes, None if they are endless."""
    strides(matrix, weight)
    try:
        holes = all_holes(matrix)
    except NoAnswer:
        return None
    return max([dot(weight, hole) for hole in holes], default=-1)
