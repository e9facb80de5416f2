"""Posts: the finitely many rows that tell the fraction optima of all sides."""

from tallyhull.cones import fixed_places
from tallyhull.farkas import bases, is_lowest
from tallyhull.linear import columns_of, dot, scaled_up, shares_of
from tallyhull.matrices import check_cost, check_pointed


def products_of(matrix, row):
    """Return the products of a row of fractions with all columns, over one positive integer."""
    entries, common = scaled_up(row)
    return [dot(entries, column) for column in columns_of(matrix)], common


def is_below_cost(matrix, cost, row):
    """Return whether no product of a row of fractions with a column is above the cost."""
    products, common = products_of(matrix, row)
    return all(a <= entry * common for a, entry in zip(products, cost))


def row_at(matrix, cost, places):
    """Return the row that is the cost at the columns of a base, and 0 at the fixed places."""
    fixed = fixed_places(matrix)
    free = [i for i in range(len(matrix)) if i not in fixed]
    shares = shares_of([tuple(matrix[i][k] for k in places) for i in free],
                       tuple(cost[k] for k in places))
    told = dict(zip(free, shares))
    return tuple(told.get(i, (0, 1)) for i in range(len(matrix)))


def foot_of(matrix, cost, row):
    """Return the indexes of the columns at which a row of fractions is equal to the cost."""
    products, common = products_of(matrix, row)
    return tuple(k for k, entry in enumerate(cost) if products[k] == entry * common)


def scaled_rows(rows):
    """Return rows of fractions of one length as rows of integers over one positive integer."""
    every, common = scaled_up([pair for row in rows for pair in row])
    many = len(rows[0])
    return [every[at * many:at * many + many] for at in range(len(rows))], common


def in_order(rows):
    """Return rows of fractions of one length, each once, ascending by their values."""
    told = dict(zip(scaled_rows(rows)[0], rows))
    return [told[key] for key in sorted(told)]


def posts_of(matrix, cost):
    """Return the list of the posts of a cost."""
    rows = [row_at(matrix, cost, places) for places in bases(matrix)]
    return in_order([row for row in rows if is_below_cost(matrix, cost, row)])


def posts(matrix, cost):
    """Return the list of the posts, tuples of fractions."""
    check_pointed(matrix)
    check_cost(matrix, cost)
    return posts_of(matrix, cost)


def feet(matrix, cost):
    """Return the list of the feet of the posts, in the same order."""
    return [foot_of(matrix, cost, row) for row in posts(matrix, cost)]


def is_row_below(matrix, cost, row):
    """Return whether a tuple of pairs of integers is a row of fractions that stays below a cost."""
    if len(row) != len(matrix) or not all(is_lowest(pair) for pair in row):
        return False
    return is_below_cost(matrix, cost, row)


def stays_below(matrix, cost, row):
    """Return whether a tuple of as many fractions as there are rows stays below a cost."""
    check_pointed(matrix)
    check_cost(matrix, cost)
    return is_row_below(matrix, cost, row)


def idle_columns(matrix, cost):
    """Return the ascending list of the indexes of the columns that stand in no foot."""
    found = feet(matrix, cost)
    return [k for k in range(len(matrix[0])) if not any(k in foot for foot in found)]
