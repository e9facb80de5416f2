"""Promises [80], [81], [84] to [88]: first and second solutions, optima, reduced prices."""

import unittest
from itertools import product
from random import Random

from tallyhull.boxes import boxes
from tallyhull.cheapest import (
    first_from, first_solution, is_first, optimum, reduced_prices, rivals, second_solution)
from tallyhull.errors import NotCost, NotMatrix, NotPointed, NotSide, NotVector, TooLarge
from tallyhull.graver import graver_list
from tallyhull.staircases import corners
from tallyhull.testsets import least_test_set
from tests.fibers import (
    ALONE, LISTED, WIDE, costs_for, first_by_looking, key_of, minus, move_by_hand, plus,
    solutions_by_hand, stands_at, wrong_calls)
from tests.samples import FLAT, GAPPED, SLOPED, TWISTED, columns_by_hand, dot, image_by_hand
from tests.samples import sides_near
from tests.test_moves import COST, NO_SOLUTIONS, START
from tests.test_testsets import CUBIC, PLAIN

NO_SIDES = [(), (3,), (3, 4, 5), (1000001, 0), (0, -1000001), (10 ** 30, 0)]
NEAR = {1: 30, 2: 7, 3: 3}
LONG = ((1, 1),), (0, 0)        # its moves go down by 1 in the first column


def ranked(matrix, cost, side):
    """All solutions of a side, in the order of [3]."""
    return sorted(solutions_by_hand(matrix, side), key=lambda x: key_of(cost, x))


def some_sides(matrix):
    """Small sides: with many solutions, with few, and with none."""
    vectors = product(range(3), repeat=len(matrix[0]))
    found = [image_by_hand(matrix, vector) for vector in list(vectors)[::7]]
    return sorted(set(sides_near(matrix, NEAR[len(matrix)])[::3] + found[:40]))


class First(unittest.TestCase):
    """[80], [81] and [87]"""

    def test_all_solutions_of_small_sides(self):
        counts = set()
        for matrix in PLAIN:
            for cost in costs_for(matrix):
                for side in some_sides(matrix)[::2]:
                    every = ranked(matrix, cost, side)
                    counts.add(min(len(every), 3))
                    wanted = every[0] if every else None
                    self.assertEqual(first_solution(matrix, cost, side), wanted)
                    self.assertEqual(optimum(matrix, cost, side),
                                     dot(cost, wanted) if every else None)
        self.assertEqual(counts, {0, 1, 2, 3})

    def test_which_ones_are_first(self):
        for matrix in PLAIN:
            for cost in costs_for(matrix):
                for side in some_sides(matrix)[::6]:
                    for at, vector in enumerate(ranked(matrix, cost, side)[:6]):
                        self.assertIs(is_first(matrix, cost, vector), at == 0)
                        self.assertEqual(first_from(matrix, cost, vector),
                                         first_by_looking(matrix, cost, vector))

    def test_what_is_nowhere_greater_is_first_too(self):
        source = Random(80)
        for matrix in LISTED:
            for cost in costs_for(matrix)[:3]:
                vector = tuple(source.randint(0, 9) for _ in matrix[0])
                first = first_from(matrix, cost, vector)
                self.assertIs(is_first(matrix, cost, first), True)
                self.assertIs(is_first(matrix, cost, vector), vector == first)
                less = tuple(source.randint(0, entry) for entry in first)
                self.assertIs(is_first(matrix, cost, less), True)
                self.assertEqual(first_from(matrix, cost, less), less)

    def test_one_end_for_one_side(self):
        source = Random(81)
        for matrix in LISTED[::2]:
            for cost in costs_for(matrix)[:3]:
                one = tuple(source.randint(0, 6) for _ in matrix[0])
                for vector in graver_list(matrix):
                    other = plus(one, vector)
                    if min(other) >= 0:
                        self.assertEqual(first_from(matrix, cost, other),
                                         first_from(matrix, cost, one))
                side = image_by_hand(matrix, one)
                self.assertEqual(first_solution(matrix, cost, side), first_from(matrix, cost, one))
                lone = plus(one, (1,) + (0,) * (len(one) - 1))
                self.assertNotEqual(first_from(matrix, cost, lone), first_from(matrix, cost, one))

    def test_two_solutions_with_one_price(self):
        # The less one as a tuple is first.
        self.assertEqual(first_solution(TWISTED, (0, 0, 0, 0), (3, 4)), (0, 2, 1, 0))
        self.assertEqual(first_solution(TWISTED, (1, 1, 1, 1), (3, 4)), (0, 2, 1, 0))
        self.assertEqual(first_solution(((2, 3),), (2, 3), (12,)), (0, 4))
        self.assertEqual(first_solution(((2, 3),), (-2, -3), (12,)), (0, 4))
        self.assertEqual(first_solution(((1, 1, 1),), (0, 0, 0), (5,)), (0, 0, 5))
        self.assertEqual(first_solution(((1, 1, 1),), (-1, -1, 0), (5,)), (0, 5, 0))

    def test_the_side_0(self):
        for matrix in LISTED:
            many = len(matrix[0])
            for cost in costs_for(matrix)[:4]:
                side = (0,) * len(matrix)
                self.assertEqual(first_solution(matrix, cost, side), (0,) * many)
                self.assertEqual(optimum(matrix, cost, side), 0)
                self.assertEqual(rivals(matrix, cost, side), [])
                self.assertIsNone(second_solution(matrix, cost, side))
                self.assertIs(is_first(matrix, cost, (0,) * many), True)
                self.assertEqual(first_from(matrix, cost, (0,) * many), (0,) * many)

    def test_great_sides(self):
        self.assertEqual(first_solution(((2, 3),), (1, 1), (1000000,)), (2, 333332))
        self.assertEqual(optimum(((2, 3),), (1, 1), (1000000,)), 333334)
        self.assertEqual(second_solution(((2, 3),), (1, 1), (1000000,)), (5, 333330))
        self.assertEqual(optimum(TWISTED, COST, (1000000, 1000000)), 1)
        self.assertEqual(optimum(TWISTED, CUBIC, (1000000, 1000000)), -2000000)
        self.assertIsNone(optimum(TWISTED, COST, (-1000000, 1000000)))
        self.assertIsNone(first_solution(SLOPED, (0, 0), (999999, 999999)))
        self.assertEqual(reduced_prices(((2, 3),), (1, 1), (1000000,)), (-1, 0))
        self.assertEqual(reduced_prices(((2, 3),), (1, 1), (999999,)), (0, 0))

    def test_the_moves_from_a_great_solution(self):
        matrix, cost = LONG
        self.assertEqual(first_from(matrix, cost, (5000, 7)), (0, 5007))
        for most in (5001, 10 ** 30):
            with self.assertRaises(TooLarge):
                first_from(matrix, cost, (most, 7))
        # With the least test set the way is short wherever it is.
        self.assertEqual(first_from(matrix, cost, (0, 10 ** 30)), (0, 10 ** 30))
        self.assertIs(is_first(matrix, cost, (10 ** 30, 0)), False)
        self.assertIs(is_first(matrix, cost, (0, 10 ** 30)), True)

    def test_by_the_boxes_of_all_solutions(self):
        for matrix in LISTED[::6]:
            for cost in costs_for(matrix)[:2]:
                for u, free in boxes(matrix, cost)[:6]:
                    far = tuple(entry + 1000 * (k in free) for k, entry in enumerate(u))
                    self.assertIs(is_first(matrix, cost, far), True)
                    side = image_by_hand(matrix, far)
                    self.assertEqual(first_solution(matrix, cost, side), far)


class Sums(unittest.TestCase):
    """[84]"""

    def test_sums_of_sides(self):
        source = Random(84)
        equal = 0
        for matrix in PLAIN:
            for cost in costs_for(matrix):
                for _ in range(6):
                    one, other = ([tuple(source.randint(0, 3) for _ in matrix[0]) for _ in range(2)])
                    sides = [image_by_hand(matrix, vector) for vector in (one, other, plus(one, other))]
                    first, second, both = [optimum(matrix, cost, side) for side in sides]
                    self.assertLessEqual(both, first + second)
                    equal += both == first + second
        self.assertGreater(equal, 50)

    def test_parts_of_the_first_solution_of_a_sum(self):
        source = Random(85)
        for matrix in PLAIN:
            for cost in costs_for(matrix):
                side = image_by_hand(matrix, tuple(source.randint(0, 4) for _ in matrix[0]))
                first = first_solution(matrix, cost, side)
                one = tuple(source.randint(0, entry) for entry in first)
                other = minus(first, one)
                prices = []
                for part in (one, other):
                    there = image_by_hand(matrix, part)
                    self.assertEqual(first_solution(matrix, cost, there), part)
                    prices.append(optimum(matrix, cost, there))
                self.assertEqual(sum(prices), optimum(matrix, cost, side))


class ReducedPrices(unittest.TestCase):
    """[85]"""

    def test_against_all_solutions(self):
        signs = set()
        for matrix in PLAIN:
            for cost in costs_for(matrix):
                for side in some_sides(matrix)[::3]:
                    found = reduced_prices(matrix, cost, side)
                    every = ranked(matrix, cost, side)
                    if not every:
                        self.assertIsNone(found)
                        continue
                    self.assertIsInstance(found, tuple)
                    self.assertEqual(len(found), len(cost))
                    for k, column in enumerate(columns_by_hand(matrix)):
                        more = ranked(matrix, cost, plus(side, column))[0]
                        self.assertEqual(
                            found[k], dot(cost, more) - dot(cost, every[0]) - cost[k])
                        self.assertLessEqual(found[k], 0)
                        signs.add(found[k] == 0)
                        grown = plus(every[0], tuple(int(k == j) for j in range(len(cost))))
                        self.assertEqual(found[k] == 0, dot(cost, grown) == dot(cost, more))
        self.assertEqual(signs, {True, False})

    def test_a_column_that_the_first_solution_has(self):
        for matrix in PLAIN:
            for cost in costs_for(matrix)[:4]:
                for side in some_sides(matrix)[::5]:
                    first = first_solution(matrix, cost, side)
                    for k, column in enumerate(columns_by_hand(matrix) if first else []):
                        if first[k] > 0:
                            self.assertEqual(reduced_prices(matrix, cost, minus(side, column))[k], 0)

    def test_by_hand(self):
        self.assertEqual(reduced_prices(((2, 3),), (1, 1), (4,)), (-1, 0))
        self.assertEqual(reduced_prices(((2, 3),), (1, 1), (3,)), (0, 0))
        self.assertEqual(reduced_prices(((2, 3),), (5, 1), (4,)), (-13, 0))
        self.assertEqual(reduced_prices(TWISTED, COST, (3, 4)), (0, -1, -2, 0))
        self.assertIsNone(reduced_prices(TWISTED, COST, (1, 4)))
        self.assertIsNone(reduced_prices(((2, 3),), (1, 1), (1,)))

    def test_greater_entries_than_a_side_has(self):
        self.assertEqual(reduced_prices(((9,),), (7,), (999999,)), (0,))
        self.assertEqual(reduced_prices(((1,), (-9,)), (7,), (111111, -999999)), (0,))
        self.assertEqual(reduced_prices(TWISTED, COST, (1000000, 1000000)), (0, -1, -2, 0))
        self.assertEqual(reduced_prices(((-2, -9),), (0, 50), (-1000000,)), (0, 0))
        self.assertEqual(reduced_prices(((-2, -9),), (0, 50), (-999999,)), (0, -100))


class Rivals(unittest.TestCase):
    """[86]"""

    def test_against_the_words(self):
        for matrix in PLAIN:
            for cost in costs_for(matrix):
                moves = [move_by_hand(cost, vector) for vector in graver_list(matrix)]
                for side in some_sides(matrix)[::3]:
                    every = ranked(matrix, cost, side)
                    found = rivals(matrix, cost, side)
                    if not every:
                        self.assertIsNone(found)
                        continue
                    self.assertIsInstance(found, list)
                    self.assertEqual(found, sorted(
                        {plus(minus(every[0], tail), head) for head, tail in moves
                         if stands_at(tail, every[0])}, key=lambda x: key_of(cost, x)))
                    self.assertTrue(set(found) <= set(every[1:]))

    def test_the_second_solution(self):
        for matrix in PLAIN:
            for cost in costs_for(matrix):
                for side in some_sides(matrix)[1::2]:
                    every = ranked(matrix, cost, side)
                    self.assertEqual(second_solution(matrix, cost, side),
                                     every[1] if len(every) > 1 else None)

    def test_by_hand(self):
        self.assertEqual(rivals(TWISTED, COST, (3, 4)), [(1, 0, 2, 0), (0, 2, 1, 0)])
        self.assertEqual(rivals(TWISTED, COST, (3, 3)), [(1, 1, 1, 0), (0, 3, 0, 0)])
        self.assertEqual(rivals(TWISTED, COST, (4, 6)), [
            (1, 1, 1, 1), (0, 3, 0, 1), (1, 0, 3, 0)])
        self.assertEqual(rivals(((1, 1, 1),), (0, 0, 0), (5,)), [(0, 1, 4), (1, 0, 4)])
        self.assertIsNone(rivals(TWISTED, COST, (1, 4)))
        self.assertEqual(rivals(TWISTED, COST, (1, 1)), [])

    def test_great_sides(self):
        self.assertEqual(rivals(((2, 3),), (1, 1), (1000000,)), [(5, 333330)])
        self.assertEqual(second_solution(TWISTED, COST, (1000000, 1000000)),
                         (666666, 0, 2, 333332))


class Example(unittest.TestCase):
    """[88]"""

    def test_the_example(self):
        self.assertEqual(first_solution(TWISTED, COST, (3, 4)), (1, 1, 0, 1))
        self.assertEqual(optimum(TWISTED, COST, (3, 4)), 1)
        self.assertEqual(second_solution(TWISTED, COST, (3, 4)), (1, 0, 2, 0))
        self.assertIsNone(first_solution(TWISTED, COST, (1, 4)))
        self.assertIsNone(first_solution(SLOPED, (0, 0), (1, 0)))

    def test_matrices_without_dependences(self):
        for matrix in ALONE:
            vector = tuple(range(1, len(matrix[0]) + 1))
            cost = (-50,) * len(vector)
            side = image_by_hand(matrix, vector)
            self.assertEqual(first_solution(matrix, cost, side), vector)
            self.assertEqual(rivals(matrix, cost, side), [])
            self.assertIsNone(second_solution(matrix, cost, side))
            self.assertEqual(reduced_prices(matrix, cost, side), (0,) * len(vector))

    def test_dependent_rows(self):
        self.assertEqual(first_solution(FLAT, (1, 1), (5, 10)), (1, 2))
        self.assertEqual(first_solution(FLAT, (1, 5), (5, 10)), (5, 0))
        self.assertIsNone(first_solution(FLAT, (1, 1), (5, 9)))
        self.assertEqual(second_solution(FLAT, (1, 1), (5, 10)), (3, 1))
        self.assertIsNone(first_solution(GAPPED, (0, 2, 3), (1, 2)))
        self.assertEqual(first_solution(GAPPED, (0, 2, 3), (3, 4)), (1, 1, 1))


class Wrong(unittest.TestCase):
    """The errors, and their order"""

    def check_errors(self, function, good, wrongs):
        for arguments, error in wrong_calls(good, wrongs):
            with self.subTest(function.__name__, arguments=arguments):
                with self.assertRaises(error):
                    function(*arguments)

    def test_vectors(self):
        wrongs = START + [(2, vector, NotVector) for vector in NO_SOLUTIONS]
        for function in (is_first, first_from):
            self.check_errors(function, (TWISTED, COST, (0, 2, 1, 0)), wrongs)

    def test_sides(self):
        wrongs = START + [(2, side, NotSide) for side in NO_SIDES]
        for function in (first_solution, optimum, reduced_prices, rivals, second_solution):
            self.check_errors(function, (TWISTED, COST, (3, 4)), wrongs)

    def test_too_large(self):
        zeros = (0,) * 6
        start = [(0, ((9, 8, 7, 6, 5, 10),), NotMatrix), (0, ((9, 8, 7, 6, 5, -4),), NotPointed),
                 (1, (0,) * 5, NotCost)]
        for function in (is_first, first_from):
            self.check_errors(function, (WIDE, zeros, zeros), start + [(2, zeros[1:], NotVector)])
            with self.assertRaises(TooLarge):
                function(WIDE, zeros, (1,) * 6)
        for function in (first_solution, optimum, reduced_prices, rivals, second_solution):
            self.check_errors(function, (WIDE, zeros, (9,)), start + [(2, (9, 9), NotSide)])
            with self.assertRaises(TooLarge):
                function(WIDE, zeros, (9,))

    def test_too_many_boxes(self):
        matrix, cost = ((2, 6, 0, 5, 0), (9, 4, 8, 6, 8), (7, 8, 6, 7, 9)), (0, 0, 0, 0, 0)
        for function in (first_solution, optimum, reduced_prices, rivals, second_solution):
            with self.assertRaises(TooLarge):
                function(matrix, cost, (2, 9, 7))
        # Without boxes, by moves alone, it is told.
        self.assertEqual(len(corners(matrix, cost)), len(least_test_set(matrix, cost)))
        self.assertEqual(first_from(matrix, cost, (1, 0, 0, 0, 0)), (1, 0, 0, 0, 0))

    def test_fresh_lists(self):
        once = rivals(TWISTED, COST, (3, 4))
        once.clear()
        self.assertEqual(len(rivals(TWISTED, COST, (3, 4))), 2)


if __name__ == "__main__":
    unittest.main()
