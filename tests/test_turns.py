"""Promises [270] to [275]: costs on a line."""

import unittest
from fractions import Fraction
from random import Random

from tallyhull.errors import BadNumber, NotCost, NotMatrix, NotPointed, NotVector, TooLarge
from tallyhull.graver import graver_list
from tallyhull.matrices import is_cost
from tallyhull.testsets import least_test_set
from tallyhull.turns import breaks, first_at, least_slopes, test_set_at as set_at, turning_list
from tests.fibers import ALONE, LIMIT, LISTED, WIDE, check_errors, costs_for, solutions_by_hand, stands_at
from tests.samples import FLAT, GAPPED, TWISTED, columns_by_hand, dot, image_by_hand
from tests.test_moves import COST, NO_SOLUTIONS, START
from tests.test_testsets import CUBIC, PLAIN

COINS, ONES, LEFT = ((2, 3),), (1, 1), (-1, 0)
NO_FRACTIONS = [(2, 4), (0, 2), (1, 0), (0, 0), (-1, 2), (1, -2), (-1, -2), (-1, 1), (4, 2), (0, -1),
                (10 ** 30, 10 ** 30)]


def pair(number):
    return number.numerator, number.denominator


def cost_by_hand(cost, turn, number):
    return tuple(a + number * b for a, b in zip(cost, turn))


def first_by_hand(matrix, cost, turn, number, vector):
    """[270], as it stands there."""
    along = cost_by_hand(cost, turn, number)
    every = solutions_by_hand(matrix, image_by_hand(matrix, vector))
    return min(every, key=lambda x: (dot(along, x), x))


def set_by_hand(matrix, cost, turn, number):
    """[66], by the order at a fraction: the least heads of the moves of the Graver list."""
    along = cost_by_hand(cost, turn, number)
    moves = []
    for vector in graver_list(matrix):
        one = tuple(max(entry, 0) for entry in vector)
        other = tuple(max(-entry, 0) for entry in vector)
        moves.append(tuple(sorted((one, other), key=lambda x: (dot(along, x), x), reverse=True)))
    heads = {head for head, _ in moves}
    least = sorted(head for head in heads
                   if not any(stands_at(other, head) for other in heads if other != head))
    return [(head, first_by_hand(matrix, cost, turn, number, head)) for head in least]


def zeros_by_hand(matrix, cost, turn):
    """The fractions above 0 at which a product with the Graver list is 0, and not for all."""
    found = set()
    for vector in graver_list(matrix):
        if dot(turn, vector):
            found.add(Fraction(-dot(cost, vector), dot(turn, vector)))
    return sorted(number for number in found if number > 0)


def breaks_by_hand(matrix, cost, turn):
    """[271], as it stands there."""
    zeros = zeros_by_hand(matrix, cost, turn)
    found = []
    for at, number in enumerate(zeros):
        low = (number + (zeros[at - 1] if at else 0)) / 2
        high = (number + zeros[at + 1]) / 2 if at + 1 < len(zeros) else number + 5
        sets = [set_by_hand(matrix, cost, turn, place) for place in (low, number, high)]
        if sets[0] != sets[1] or sets[1] != sets[2]:
            found.append(number)
    return found


def turning_by_hand(matrix, cost, turn):
    """[272], as it stands there."""
    numbers = breaks_by_hand(matrix, cost, turn)
    places = [Fraction(0)]
    for at, number in enumerate(numbers):
        places += [(numbers[at - 1] + number) / 2 if at else number / 2, number]
    places.append(numbers[-1] + 1 if numbers else Fraction(1))
    found = [(pair(place), set_by_hand(matrix, cost, turn, place)) for place in places]
    return found[:1] + found[2:] if found[1][1] == found[0][1] else found


def some_turns(matrix, seed):
    source = Random(seed)
    many = len(matrix[0])
    rows = [row for row in matrix if is_cost(matrix, row)]
    return costs_for(matrix)[:3] + rows + [tuple(source.randint(-9, 9) for _ in range(many)) for _ in range(3)]


SMALL = [matrix for matrix in PLAIN if len(graver_list(matrix)) < 12]


class Sets(unittest.TestCase):
    """[270]"""

    def test_against_the_words(self):
        places = [Fraction(0), Fraction(1), Fraction(1, 3), Fraction(7, 2), Fraction(10 ** 6, 7)]
        for matrix in SMALL:
            for cost in costs_for(matrix)[1:]:
                for turn in some_turns(matrix, 270)[1::2]:
                    for number in places + zeros_by_hand(matrix, cost, turn)[:3]:
                        found = set_at(matrix, cost, turn, pair(number))
                        self.assertIsInstance(found, list)
                        self.assertEqual(found, set_by_hand(matrix, cost, turn, number),
                                         (matrix, cost, turn, number))

    def test_at_0_and_where_it_is_a_cost(self):
        for matrix in LISTED:
            for cost in costs_for(matrix)[1:3]:
                for turn in some_turns(matrix, 271)[2:4]:
                    self.assertEqual(set_at(matrix, cost, turn, (0, 1)), least_test_set(matrix, cost))
                    for times in (1, 2, 5):
                        other = tuple(a + times * b for a, b in zip(cost, turn))
                        if is_cost(matrix, other):
                            self.assertEqual(set_at(matrix, cost, turn, (times, 1)),
                                             least_test_set(matrix, other))

    def test_great_fractions(self):
        # Far out the turn tells the order, and where it tells none, the cost does.
        huge = 10 ** 30
        for matrix in SMALL:
            for cost in costs_for(matrix)[1:]:
                for turn in some_turns(matrix, 272):
                    found = set_at(matrix, cost, turn, (huge, 1))
                    self.assertEqual(found, turning_list(matrix, cost, turn)[-1][1])
                    self.assertEqual(found, set_at(matrix, cost, turn, (huge * huge, 3)))
                    if not any(cost):
                        self.assertEqual(found, least_test_set(matrix, turn))


class Breaks(unittest.TestCase):
    """[271] to [273]"""

    def test_against_the_words(self):
        counts = set()
        for matrix in SMALL:
            for cost in costs_for(matrix)[1:]:
                for turn in some_turns(matrix, 273):
                    numbers = breaks(matrix, cost, turn)
                    self.assertIsInstance(numbers, list)
                    self.assertEqual(numbers, [pair(x) for x in breaks_by_hand(matrix, cost, turn)])
                    found = turning_list(matrix, cost, turn)
                    self.assertIsInstance(found, list)
                    self.assertEqual(found, turning_by_hand(matrix, cost, turn), (matrix, cost, turn))
                    counts.add(len(numbers))
        self.assertLessEqual({0, 1, 2, 3}, counts)

    def test_many_breaks(self):
        source = Random(271)
        several = 0
        for matrix in LISTED[::2] + [LIMIT]:
            cost = tuple(source.randint(-50, 50) for _ in matrix[0])
            turn = tuple(source.randint(-50, 50) for _ in matrix[0])
            numbers = [Fraction(*one) for one in breaks(matrix, cost, turn)]
            self.assertEqual(numbers, sorted(set(numbers)))
            self.assertLessEqual(set(numbers), set(zeros_by_hand(matrix, cost, turn)))
            self.assertTrue(all(number > 0 for number in numbers))
            several += len(numbers) > 2
            told = turning_list(matrix, cost, turn)
            for place, moves in told:
                self.assertEqual(moves, set_at(matrix, cost, turn, place))
            # Any zero that is no break has the test set of its stretch, and both beside it.
            for number in zeros_by_hand(matrix, cost, turn)[:8]:
                if number not in numbers:
                    below = [one for one in told if Fraction(*one[0]) < number]
                    above = [one for one in told if Fraction(*one[0]) > number]
                    here = set_at(matrix, cost, turn, pair(number))
                    self.assertIn(here, [one[1] for one in below[-1:] + above[:1]])
        self.assertGreater(several, 5)

    def test_no_breaks(self):
        for matrix in LISTED + ALONE:
            for cost in costs_for(matrix)[:3]:
                zeros = (0,) * len(cost)
                self.assertEqual(breaks(matrix, cost, zeros), [])
                self.assertEqual(turning_list(matrix, cost, zeros), [((0, 1), least_test_set(matrix, cost))])
                for times in (1, -1, 5):
                    turn = tuple(times * sum(column) for column in columns_by_hand(matrix))
                    if is_cost(matrix, turn):
                        self.assertEqual(breaks(matrix, cost, turn), [])
                        self.assertEqual(len(turning_list(matrix, cost, turn)), 1)

    def test_turns_along_and_against_the_cost(self):
        for matrix in SMALL:
            for cost in costs_for(matrix)[1:]:
                self.assertEqual(breaks(matrix, cost, cost), [])
                self.assertEqual(turning_list(matrix, cost, cost), [((0, 1), least_test_set(matrix, cost))])
                turn = tuple(-entry for entry in cost)
                found = breaks(matrix, cost, turn)
                self.assertIn(found, ([], [(1, 1)]))
                self.assertEqual(turning_list(matrix, cost, turn)[-1][1], least_test_set(matrix, turn))
                half = breaks(matrix, cost, tuple(-2 * entry for entry in cost)) if max(map(abs, cost)) < 26 else found
                if half != found:
                    self.assertEqual((half, found), ([(1, 2)], [(1, 1)]))

    def test_a_stretch_behind_0_of_its_own(self):
        # By the cost of zeros (0, 2) is first, and the turn tells the order at once behind 0.
        self.assertEqual(breaks(COINS, (0, 0), (0, 1)), [])
        self.assertEqual(turning_list(COINS, (0, 0), (0, 1)),
                         [((0, 1), [((3, 0), (0, 2))]), ((1, 1), [((0, 2), (3, 0))])])
        self.assertEqual(turning_list(COINS, (0, 0), (1, 0)), [((0, 1), [((3, 0), (0, 2))])])
        # It may have an end: behind 0 the first column is the cheapest one, from 2 on the third one.
        line, low, mid, high = ((1, 1, 1),), (0, 0, 1), (0, 1, 0), (1, 0, 0)
        self.assertEqual(turning_list(line, (0, 0, 2), (0, 1, -1)), [
            ((0, 1), [(low, mid), (high, mid)]), ((1, 1), [(low, high), (mid, high)]),
            ((2, 1), [(mid, low), (high, low)]), ((3, 1), [(mid, low), (high, low)])])

    def test_told(self):
        for matrix, cost, turn, told in [
                (COINS, ONES, LEFT, [(1, 3)]), (COINS, ONES, (-1, -1), [(1, 1)]), (COINS, ONES, (-2, -3), []), (COINS, (2, 3), (1, 0), []),
                (COINS, (2, 3), (-1, 0), []), (COINS, (2, 2), (-5, 0), [(2, 15)]), (FLAT, (1, 1), (0, 1), [(1, 1)]),
                (((1, 1, 1),), (3, 2, 1), (0, 1, 3), [(1, 2), (1, 1)]), (TWISTED, COST, CUBIC, [(1, 1)]),
                (((1, 1),), (0, 7), (0, -3), [(7, 3)]), (((1, 1),), (7, 0), (0, 3), [(7, 3)])]:
            with self.subTest(matrix=matrix, cost=cost, turn=turn):
                self.assertEqual(breaks(matrix, cost, turn), told)


class Firsts(unittest.TestCase):
    """[273] and [274]"""

    def test_first_solutions(self):
        source = Random(274)
        for matrix in PLAIN:
            for cost in costs_for(matrix)[1:4]:
                for turn in some_turns(matrix, 275)[::3]:
                    vector = tuple(source.randint(0, 3) for _ in cost)
                    places = [Fraction(0), Fraction(source.randint(0, 9), source.randint(1, 9))]
                    for number in places + zeros_by_hand(matrix, cost, turn)[:2]:
                        self.assertEqual(first_at(matrix, cost, turn, pair(number), vector),
                                         first_by_hand(matrix, cost, turn, number, vector))

    def test_slopes(self):
        source = Random(275)
        counts = {}
        for matrix in SMALL:
            for cost in costs_for(matrix)[1:]:
                for turn in some_turns(matrix, 276):
                    vector = tuple(source.randint(0, 4) for _ in cost)
                    found = least_slopes(matrix, cost, turn, vector)
                    self.assertIsInstance(found, list)
                    numbers = [Fraction(0)] + [Fraction(*one) for one in breaks(matrix, cost, turn)]
                    middles = [(a + b) / 2 for a, b in zip(numbers, numbers[1:])] + [numbers[-1] + 1]
                    wanted = [dot(turn, first_by_hand(matrix, cost, turn, number, vector)) for number in middles]
                    self.assertEqual(wanted, sorted(wanted, reverse=True))
                    self.assertEqual(found, [one for k, one in enumerate(wanted) if one not in wanted[:k]])
                    counts[len(found)] = counts.get(len(found), 0) + 1
                    # The least products are straight lines with these slopes.
                    for low, high, slope in zip(numbers, numbers[1:], wanted):
                        ends = [dot(cost_by_hand(cost, turn, number), first_by_hand(
                            matrix, cost, turn, number, vector)) for number in (low, high)]
                        self.assertEqual(ends[1] - ends[0], slope * (high - low))
        self.assertGreater(counts[2], 20)
        self.assertGreater(counts.get(3, 0), 5)

    def test_slopes_told(self):
        self.assertEqual(least_slopes(COINS, ONES, LEFT, (0, 2)), [0, -3])
        self.assertEqual(least_slopes(COINS, ONES, LEFT, (3, 0)), [0, -3])
        self.assertEqual(least_slopes(COINS, ONES, LEFT, (1, 1)), [-1])
        self.assertEqual(least_slopes(COINS, ONES, LEFT, (0, 0)), [0])
        # The stretch behind 0 counts, not 0 itself.
        self.assertEqual(least_slopes(COINS, (0, 0), (0, 1), (0, 2)), [0])
        self.assertEqual(least_slopes(((1, 1, 1),), (3, 2, 1), (0, 1, 3), (0, 0, 5)), [15, 5, 0])
        self.assertEqual(least_slopes(COINS, ONES, (0, 0), (0, 2)), [0])


class Example(unittest.TestCase):
    """[275]"""

    def test_the_example(self):
        self.assertEqual(breaks(((2, 3),), (1, 1), (-1, 0)), [(1, 3)])
        self.assertEqual(set_of_coins((0, 1)), [((3, 0), (0, 2))])
        self.assertEqual(set_of_coins((1, 6)), [((3, 0), (0, 2))])
        self.assertEqual(set_of_coins((1, 3)), [((3, 0), (0, 2))])
        self.assertEqual(set_of_coins((2, 5)), [((0, 2), (3, 0))])
        self.assertEqual(turning_list(((2, 3),), (1, 1), (-1, 0)), [
            ((0, 1), [((3, 0), (0, 2))]), ((1, 3), [((3, 0), (0, 2))]), ((4, 3), [((0, 2), (3, 0))])])


def set_of_coins(number):
    return set_at(((2, 3),), (1, 1), (-1, 0), number)


class Wrong(unittest.TestCase):
    """The errors, and their order"""

    def test_errors(self):
        turns = [(2, turn, NotCost) for turn in [(), (0, 0, 0), (0, 0, 0, 51), (0, 0, -51, 0), (0,) * 5]]
        for function in (breaks, turning_list):
            check_errors(self, function, (TWISTED, COST, CUBIC), START + turns)
        numbers = [(3, number, BadNumber) for number in NO_FRACTIONS]
        check_errors(self, set_at, (TWISTED, COST, CUBIC, (1, 2)), START + turns + numbers)
        vectors = [(4, vector, NotVector) for vector in NO_SOLUTIONS]
        check_errors(self, first_at, (TWISTED, COST, CUBIC, (1, 2), (1, 1, 1, 1)),
                     START + turns + numbers[:4] + vectors)
        vectors = [(3, vector, NotVector) for vector in NO_SOLUTIONS]
        check_errors(self, least_slopes, (TWISTED, COST, CUBIC, (1, 1, 1, 1)), START + turns + vectors)

    def test_too_large(self):
        zeros = (0,) * 6
        start = [(0, ((9, 8, 7, 6, 5, 10),), NotMatrix), (0, ((9, 8, 7, 6, 5, -4),), NotPointed),
                 (1, zeros[1:], NotCost), (2, zeros[1:], NotCost)]
        for function, more, wrong in [
                (breaks, (), []), (turning_list, (), []), (set_at, ((0, 1),), [(3, (0, 2), BadNumber)]),
                (first_at, ((0, 1), zeros), [(3, (0, 2), BadNumber), (4, zeros[1:], NotVector)]),
                (least_slopes, (zeros,), [(3, zeros[1:], NotVector)])]:
            check_errors(self, function, (WIDE, zeros, zeros) + more, start + wrong)
            with self.assertRaises(TooLarge):
                function(WIDE, zeros, zeros, *more)
        self.assertTrue(turning_list(LIMIT, zeros, zeros))

    def test_long_ways(self):
        line = ((1, 1),)
        for most, is_long in [(5000, False), (5001, True)]:
            if is_long:
                with self.assertRaises(TooLarge):
                    first_at(line, (1, 0), (0, 0), (1, 2), (most, 0))
                with self.assertRaises(TooLarge):
                    least_slopes(line, (1, 0), (0, 3), (most, 0))
            else:
                self.assertEqual(first_at(line, (1, 0), (0, 0), (1, 2), (most, 0)), (0, most))
                self.assertEqual(least_slopes(line, (1, 0), (0, 3), (most, 0)), [3 * most, 0])

    def test_fresh_lists(self):
        for function, more in [(breaks, ()), (turning_list, ()), (set_at, ((1, 2),)), (least_slopes, ((0, 2),))]:
            once = function(COINS, ONES, LEFT, *more)
            kept = [(place, list(moves)) for place, moves in once] if function == turning_list else list(once)
            if function == turning_list:
                for _, moves in once:
                    moves.clear()
            once.clear()
            self.assertTrue(kept)
            self.assertEqual(function(COINS, ONES, LEFT, *more), kept)
        # Each pair has a list of its own.
        found = turning_list(COINS, ONES, LEFT)
        found[0][1].clear()
        self.assertTrue(found[1][1])
        self.assertEqual(least_test_set(GAPPED, (0, 0, 0)), turning_list(GAPPED, (0, 0, 0), (0, 0, 0))[0][1])


if __name__ == "__main__":
    unittest.main()
