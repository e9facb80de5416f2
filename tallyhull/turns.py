"""Costs on a line: the least test sets for a cost plus all multiples of another one."""

from tallyhull.errors import BadNumber
from tallyhull.farkas import is_lowest
from tallyhull.graver import graver_or_raise
from tallyhull.linear import dot, is_before, lowest, scaled_up
from tallyhull.matrices import check_cost, check_pointed
from tallyhull.moves import check_solution, proper_move, way_down
from tallyhull.testsets import least_of

BEGIN = (0, 1)


def check_turn(matrix, cost, turn):
    """Raise the error for what is wrong first of a matrix, a cost and a turn."""
    check_pointed(matrix)
    check_cost(matrix, cost)
    check_cost(matrix, turn)


def check_place(number):
    """Raise BadNumber for what is no fraction from 0 on in lowest terms."""
    if not is_lowest(number) or number[0] < 0:
        raise BadNumber("the pair is no fraction from 0 on in lowest terms")


def cost_at(cost, turn, number):
    """Return the cost at a fraction, times the second integer of the fraction."""
    above, below = number
    return tuple(below * a + above * b for a, b in zip(cost, turn))


def set_for(listed, cost):
    """Return the least test set for integers of any size as a cost, by the Graver list."""
    return least_of(cost, [proper_move(cost, vector) for vector in listed])


def test_set_at(matrix, cost, turn, number):
    """Return the least test set at a fraction."""
    check_turn(matrix, cost, turn)
    check_place(number)
    return set_for(graver_or_raise(matrix), cost_at(cost, turn, number))


def middle(one, other):
    """Return half of the sum of two fractions."""
    return lowest(one[0] * other[1] + other[0] * one[1], 2 * one[1] * other[1])


def zeros_of(listed, cost, turn):
    """Return the ascending list of the fractions above 0 at which a listed vector has the price 0.

    Those with the price 0 everywhere are left out.
    """
    found = {}
    for vector in listed:
        price, change = dot(cost, vector), dot(turn, vector)
        if price * change < 0:
            found[lowest(abs(price), abs(change))] = True
    numbers = list(found)
    told = dict(zip(scaled_up(numbers)[0], numbers))
    return [told[entry] for entry in sorted(told)]


def stretch_behind(numbers, at):
    """Return a fraction between one of some ascending ones and the next one, or behind the last."""
    if at + 1 < len(numbers):
        return middle(numbers[at], numbers[at + 1])
    above, below = numbers[at]
    return above + below, below


def is_kept(moves, cost):
    """Return whether the least test set for one cost is that for another one, too.

    It is if its moves are moves there: then all heads are no first solutions there, either, and
    what is left are just as many vectors as wanted, one of each side.
    """
    return all(is_before(cost, tail, head) for head, tail in moves)


class Way:
    """The least test sets on the way from 0 on.

    `sets` has that at 0, in the stretch behind it, at the first zero of the listed vectors, in
    the stretch behind it, and so on; `breaks` has the indexes of those at the breaks.
    """

    def __init__(self, listed, cost, turn):
        self.zeros = [BEGIN] + zeros_of(listed, cost, turn)
        self.sets = []
        moves = set_for(listed, cost)
        for at, number in enumerate(self.zeros):
            for place in (number, stretch_behind(self.zeros, at)):
                here = cost_at(cost, turn, place)
                moves = moves if is_kept(moves, here) else set_for(listed, here)
                self.sets.append(moves)
        self.breaks = [k for k in range(2, len(self.sets), 2) if self.is_break(k)]

    def is_break(self, k):
        """Return whether the set with an index is not that of both stretches beside it."""
        return self.sets[k - 1] != self.sets[k] or self.sets[k] != self.sets[k + 1]

    def numbers(self):
        """Return the ascending list of the breaks."""
        return [self.zeros[k // 2] for k in self.breaks]

    def stretches(self):
        """Return the list of the sets of the stretches between the breaks."""
        return [self.sets[k + 1] for k in [0] + self.breaks]


def way_along(matrix, cost, turn):
    """Return the way of a pointed matrix, or raise TooLarge."""
    return Way(graver_or_raise(matrix), cost, turn)


def breaks(matrix, cost, turn):
    """Return the ascending list of the breaks."""
    check_turn(matrix, cost, turn)
    return way_along(matrix, cost, turn).numbers()


def turning_list(matrix, cost, turn):
    """Return the turning list."""
    check_turn(matrix, cost, turn)
    way = way_along(matrix, cost, turn)
    numbers = [BEGIN] + way.numbers()
    found = []
    for at, (k, stretch) in enumerate(zip([0] + way.breaks, way.stretches())):
        found.append((numbers[at], list(way.sets[k])))
        if at > 0 or stretch != way.sets[k]:
            found.append((stretch_behind(numbers, at), list(stretch)))
    return found


def first_at(matrix, cost, turn, number, vector):
    """Return the first solution at a fraction of the image of a vector of integers from 0 on."""
    check_turn(matrix, cost, turn)
    check_place(number)
    check_solution(matrix, vector)
    return way_down(set_for(graver_or_raise(matrix), cost_at(cost, turn, number)), vector)[0]


def least_slopes(matrix, cost, turn, vector):
    """Return the list of the slopes of the image of a vector of integers from 0 on, each once."""
    check_turn(matrix, cost, turn)
    check_solution(matrix, vector)
    way = way_along(matrix, cost, turn)
    # They never grow, so that equal ones follow one another.
    return list({dot(turn, way_down(moves, vector)[0]): True for moves in way.stretches()})
