"""The checker's own reckoning with rows of integers and of fractions.

Nothing but the errors is imported: whoever trusts the checker need not trust other modules.
"""

from tallyhull.errors import NotCost, NotMatrix, NotSide

MOST_ROWS = 3
MOST_COLUMNS = 6
ENTRY_LIMIT = 9
SIDE_LIMIT = 1000000
COST_LIMIT = 50


def is_integer(value):
    """Return whether something is an integer; True and False are none."""
    return isinstance(value, int) and not isinstance(value, bool)


def is_row(row, many):
    """Return whether something is a tuple of so many integers."""
    return isinstance(row, tuple) and len(row) == many and all(is_integer(entry) for entry in row)


def is_counting(row, many):
    """Return whether something is a tuple of so many integers from 0 on."""
    return is_row(row, many) and all(entry >= 0 for entry in row)


def is_limited(row, many, limit):
    """Return whether something is a tuple of so many integers, none beyond a limit."""
    return is_row(row, many) and all(-limit <= entry <= limit for entry in row)


def is_tuple_of(value, many):
    """Return whether something is a tuple of so many entries."""
    return isinstance(value, tuple) and len(value) == many


def demand_matrix(matrix):
    """Raise NotMatrix for what is no matrix."""
    if not isinstance(matrix, tuple) or not 1 <= len(matrix) <= MOST_ROWS:
        raise NotMatrix("a matrix has one to three rows")
    if not isinstance(matrix[0], tuple) or not 1 <= len(matrix[0]) <= MOST_COLUMNS:
        raise NotMatrix("a matrix has one to six columns")
    if not all(is_limited(row, len(matrix[0]), ENTRY_LIMIT) for row in matrix):
        raise NotMatrix("a matrix has rows of equally many integers from -9 to 9")


def demand_cost(matrix, cost):
    """Raise NotCost for what is no cost of a matrix."""
    if not is_limited(cost, len(matrix[0]), COST_LIMIT):
        raise NotCost("a cost has an integer from -50 to 50 for each column")


def demand_side(matrix, side):
    """Raise NotSide for what is no side of a matrix."""
    if not is_limited(side, len(matrix), SIDE_LIMIT):
        raise NotSide("a side has an integer from -1000000 to 1000000 for each row")


def scalar(one, other):
    """Return the sum of the products of both rows."""
    return sum(a * b for a, b in zip(one, other))


def added(one, times, other):
    """Return the first row with so many times the other one."""
    return tuple(a + times * b for a, b in zip(one, other))


def turned(row):
    """Return the row with all signs turned."""
    return tuple(-entry for entry in row)


def picture(matrix, vector):
    """Return the image of a vector."""
    return tuple(scalar(row, vector) for row in matrix)


def column_list(matrix):
    """Return the list of the columns of a matrix."""
    return list(zip(*matrix))


def is_dependent(matrix, vector):
    """Return whether a vector other than 0 has the image 0."""
    return any(vector) and not any(picture(matrix, vector))


def is_earlier(cost, one, other):
    """Return whether the first vector comes before the other one."""
    return (scalar(cost, one), one) < (scalar(cost, other), other)


def is_divided(m, number):
    """Return whether m divides a number; 0 divides 0 alone."""
    return number == 0 if m == 0 else number % m == 0


def common_divisor(one, other):
    """Return the greatest common divisor of two integers."""
    high, low = abs(one), abs(other)
    while low != 0:
        high, low = low, high % low
    return high


def is_fraction(pair):
    """Return whether something is a fraction in lowest terms."""
    return is_row(pair, 2) and pair[1] > 0 and common_divisor(pair[0], pair[1]) == 1


def is_fraction_row(row, many):
    """Return whether something is a tuple of so many fractions."""
    return is_tuple_of(row, many) and all(is_fraction(pair) for pair in row)


def over_one(row):
    """Return a row of fractions as a row of integers over one positive integer."""
    common = 1
    for _, below in row:
        common = common // common_divisor(common, below) * below
    return tuple(above * (common // below) for above, below in row), common


def first_with(rows, place):
    """Return the first row with an entry other than 0 at a place, or None."""
    for row in rows:
        if row[place] != 0:
            return row
    return None


def crossed(row, lead, place):
    """Return the sum of multiples of both rows that is 0 at a place."""
    return tuple(lead[place] * a - row[place] * b for a, b in zip(row, lead))


def times_for(chosen, side):
    """Return how often independent columns are taken to make a side, integers from 0 on, or None."""
    many = len(chosen)
    rest = list(zip(*chosen, side))
    solved = []
    for place in range(many):
        lead = first_with(rest, place)
        if lead is None:
            return None
        rest = [crossed(row, lead, place) for row in rest]
        solved = [crossed(row, lead, place) for row in solved] + [lead]
    if any(row[many] != 0 for row in rest):
        return None
    found = []
    for place, row in enumerate(solved):
        times, left = divmod(row[many], row[place])
        if left != 0 or times < 0:
            return None
        found.append(times)
    return found
