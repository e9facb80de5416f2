"""What whole numbers lose against fractions, for one side and for all of them."""

from tallyhull.boxes import boxes, check_tried, is_proper_box, lists_all_first
from tallyhull.cheapest import first_solution
from tallyhull.errors import BadNumber, NoAnswer, NotPaper
from tallyhull.farkas import is_lowest
from tallyhull.linear import columns_of, dot, fits, image_of, lowest
from tallyhull.matrices import check_cost, check_pointed, has_integers
from tallyhull.optima import optimum_by
from tallyhull.posts import is_row_below, posts_of, products_of, scaled_rows
from tallyhull.staircases import corners


def loss_by(matrix, cost, rows, first):
    """Return the loss of the side of a first solution by the posts."""
    above, below = optimum_by(rows, image_of(matrix, first))
    return lowest(dot(cost, first) * below - above, below)


def loss_of(matrix, cost, side):
    """Return the loss of a side, a pair."""
    first = first_solution(matrix, cost, side)
    if first is None:
        raise NoAnswer("the side has no solution")
    return loss_by(matrix, cost, posts_of(matrix, cost), first)


class Gaps:
    """How far the products of the posts with the columns are below the cost.

    The slacks are integers over one positive integer, a tuple of them for each post.
    """

    def __init__(self, matrix, cost):
        self.rows = posts_of(matrix, cost)
        entries, self.common = scaled_rows(self.rows)
        self.slacks = [tuple(entry * self.common - dot(row, column)
                             for entry, column in zip(cost, columns_of(matrix)))
                       for row in entries]

    def best_post(self, box):
        """Return the index of a post that tells the loss of a box."""
        u, free = box
        # Some post is the cost at all free columns, so that there is a least one.
        return min((dot(slack, u), at) for at, slack in enumerate(self.slacks)
                   if not any(slack[k] for k in free))[1]

    def loss_of_box(self, box):
        """Return the loss of a box as an integer over the one of all."""
        return dot(self.slacks[self.best_post(box)], box[0])

    def member_losing(self, box, above, below):
        """Return a member of a box whose side loses a fraction, if no more than the box loses.

        Each time that the free columns are added, a post that is not the cost there falls
        further behind.
        """
        u, free = box
        times = 0
        for slack in self.slacks:
            step = sum(slack[k] for k in free)
            lacking = above * self.common - dot(slack, u) * below
            if step > 0:
                # The quotient is rounded up.
                times = max(times, -(-lacking // (step * below)))
        return tuple(times if k in free else entry for k, entry in enumerate(u))


def box_losses(matrix, cost):
    """Return the list of the losses of all standard boxes, in their order."""
    listed = boxes(matrix, cost)
    gaps = Gaps(matrix, cost)
    return [lowest(gaps.loss_of_box(box), gaps.common) for box in listed]


def box_loss(matrix, cost, box):
    """Return the loss of a box, a pair."""
    if box not in boxes(matrix, cost):
        raise NotPaper("the pair is no standard box")
    gaps = Gaps(matrix, cost)
    return lowest(gaps.loss_of_box(box), gaps.common)


def side_losing(matrix, cost, number):
    """Return a first solution whose side has a loss of at least a number, or None."""
    check_pointed(matrix)
    check_cost(matrix, cost)
    if not is_lowest(number):
        raise BadNumber("the pair is no fraction in lowest terms")
    above, below = number
    listed = boxes(matrix, cost)
    gaps = Gaps(matrix, cost)
    for box in listed:
        if gaps.loss_of_box(box) * below >= above * gaps.common:
            return gaps.member_losing(box, above, below)
    return None


def worst_of(gaps, listed):
    """Return the greatest loss of boxes, an integer over the one of all, and the first box with it."""
    losses = [gaps.loss_of_box(box) for box in listed]
    most = max(losses)
    return most, listed[losses.index(most)]


def greatest_loss(matrix, cost):
    """Return the greatest loss, a pair."""
    listed = boxes(matrix, cost)
    gaps = Gaps(matrix, cost)
    return lowest(worst_of(gaps, listed)[0], gaps.common)


def is_lossless(matrix, cost):
    """Return whether the greatest loss is 0."""
    return greatest_loss(matrix, cost)[0] == 0


def loss_paper(matrix, cost):
    """Return a loss paper."""
    listed = boxes(matrix, cost)
    gaps = Gaps(matrix, cost)
    most, worst = worst_of(gaps, listed)
    above, below = lowest(most, gaps.common)
    solution = gaps.member_losing(worst, above, below)
    return (above, below), solution, [(box, gaps.rows[gaps.best_post(box)]) for box in listed]


def is_pair_of_box(matrix, pair):
    """Return whether something is a pair of a box and a tuple of pairs of integers."""
    if not isinstance(pair, tuple) or len(pair) != 2 or not is_proper_box(matrix, pair[0]):
        return False
    return isinstance(pair[1], tuple) and all(has_integers(share, 2) for share in pair[1])


def shows_loss(matrix, cost, number, box, row):
    """Return whether a row of fractions shows that the loss of a box is at most a number."""
    if not is_row_below(matrix, cost, row):
        return False
    u, free = box
    products, common = products_of(matrix, row)
    if any(products[k] != cost[k] * common for k in free):
        return False
    return (dot(cost, u) * common - dot(products, u)) * number[1] <= number[0] * common


def has_loss(matrix, cost, heads, number, solution):
    """Return whether something is a first solution, by the corners, whose side has a loss."""
    if not has_integers(solution, len(cost)) or min(solution) < 0:
        return False
    if any(fits(head, solution) for head in heads):
        return False
    return loss_by(matrix, cost, posts_of(matrix, cost), solution) == number


def is_loss_paper(matrix, cost, paper):
    """Return whether a tuple is a loss paper."""
    heads = corners(matrix, cost)
    check_tried(heads, len(cost))
    if len(paper) != 3:
        return False
    number, solution, pairs = paper
    if not has_integers(number, 2) or not has_loss(matrix, cost, heads, number, solution):
        return False
    if not isinstance(pairs, list) or not all(is_pair_of_box(matrix, pair) for pair in pairs):
        return False
    if not all(shows_loss(matrix, cost, number, box, row) for box, row in pairs):
        return False
    return lists_all_first(heads, [box for box, _ in pairs])
