"""Promises [170] and [171], and of [176] what it says of costs."""

import unittest
from random import Random

from tallyhull.cheapest import first_solution
from tallyhull.costs import alike_costs, cost_classes, parting_side
from tallyhull.errors import NotCost, NotMatrix, NotPointed, TooLarge
from tallyhull.matrices import check_side, is_cost
from tallyhull.testsets import least_test_set
from tests.fibers import ALONE, LISTED, WIDE, costs_for, plus, solutions_by_hand, wrong_calls
from tests.samples import FLAT, SLOPED, TWISTED, columns_by_hand, dot
from tests.test_cheapest import ranked, some_sides
from tests.test_moves import COST, START
from tests.test_testsets import CUBIC, PLAIN

ONES = ((1, 1, 1),)
NO_COSTS = [(), (1, 2, 3), (0, 1, 1, 0, 0), (51, 0, 0, 0), (0, -51, 0, 0), (10 ** 30, 0, 0, 0)]


def some_costs(matrix):
    source = Random(170)
    return costs_for(matrix) + costs_for(matrix, 1)[2:] + [
        tuple(source.randint(-6, 6) for _ in matrix[0]) for _ in range(4)]


class Alike(unittest.TestCase):
    """[170]"""

    def test_against_all_small_sides(self):
        told = {True: 0, False: 0}
        for matrix in PLAIN:
            costs = some_costs(matrix)
            firsts = [[every[:1] for every in (ranked(matrix, cost, side)
                                               for side in some_sides(matrix)[::2])] for cost in costs]
            for one, these in zip(costs, firsts):
                for other, those in zip(costs, firsts):
                    found = alike_costs(matrix, one, other)
                    if these != those:
                        self.assertIs(found, False)
                    self.assertIs(found, least_test_set(matrix, one) == least_test_set(matrix, other))
                    side = parting_side(matrix, one, other)
                    self.assertEqual(side is None, found)
                    told[found] += 1
                    if side is not None:
                        check_side(matrix, side)
                        self.assertNotEqual(ranked(matrix, one, side)[0], ranked(matrix, other, side)[0])
        self.assertGreater(min(told.values()), 100)

    def test_other_matrices(self):
        for matrix in LISTED:
            costs = some_costs(matrix)
            for one, other in zip(costs, costs[1:]):
                side = parting_side(matrix, one, other)
                self.assertEqual(side is None, alike_costs(matrix, one, other))
                if side is not None:
                    self.assertTrue(len(solutions_by_hand(matrix, side)) > 1)
                    self.assertNotEqual(first_solution(matrix, one, side),
                                        first_solution(matrix, other, side))

    def test_multiples_and_rows(self):
        source = Random(171)
        for matrix in PLAIN:
            for cost in some_costs(matrix):
                for many in (1, 2, 7):
                    other = tuple(many * entry for entry in cost)
                    if is_cost(matrix, other):
                        self.assertIs(alike_costs(matrix, cost, other), True)
                        self.assertIsNone(parting_side(matrix, cost, other))
                row = tuple(source.randint(-2, 2) for _ in matrix)
                other = plus(cost, tuple(dot(row, column) for column in columns_by_hand(matrix)))
                if is_cost(matrix, other):
                    self.assertIs(alike_costs(matrix, cost, other), True)
                    self.assertIsNone(parting_side(matrix, other, cost))

    def test_costs_that_one_side_parts(self):
        for matrix, one, other, side in [
                (TWISTED, COST, (0, 3, 2, 0), None), (TWISTED, COST, (0, 1, 2, 0), (2, 2)),
                (((2, 3),), (1, 1), (2, 3), None),
                (((2, 3),), (1, 1), (0, 1), (6,)), (FLAT, (1, 2), (0, 0), None),
                (FLAT, (1, 2), (1, 3), (2, 4)), (ONES, (0, 0, 0), (0, 0, 1), (1,)),
                (ONES, (2, 1, 0), (0, 0, 0), None), (ONES, (0, 1, 0), (0, 0, 0), None),
                (SLOPED, (50, -50), (-50, 50), None), (TWISTED, COST, COST, None)]:
            with self.subTest(matrix=matrix, one=one, other=other):
                self.assertIs(alike_costs(matrix, one, other), side is None)
                self.assertEqual(parting_side(matrix, one, other), side)
        for matrix in ALONE:
            many = len(matrix[0])
            self.assertIs(alike_costs(matrix, (50,) * many, (-50,) * many), True)

    def test_the_cost_of_zeros_and_equal_prices(self):
        # By the cost of zeros the less tuple is first, and so it is by this one.
        self.assertIs(alike_costs(((1, 1),), (0, 0), (1, 0)), True)
        self.assertIs(alike_costs(((1, 1),), (0, 0), (0, 1)), False)
        self.assertEqual(parting_side(((1, 1),), (0, 0), (0, 1)), (1,))


class Classes(unittest.TestCase):
    """[171]"""

    def test_against_pairs(self):
        several = 0
        for matrix in PLAIN + LISTED[::5]:
            costs = some_costs(matrix)
            costs = costs + costs[:2] + [tuple(2 * entry for entry in costs[5])]
            found = cost_classes(matrix, costs)
            self.assertIsInstance(found, list)
            self.assertEqual(found, [next(k for k, one in enumerate(costs)
                                          if alike_costs(matrix, one, cost)) for cost in costs])
            several += len(set(found)) > 2
        self.assertGreater(several, 10)

    def test_by_hand(self):
        self.assertEqual(cost_classes(TWISTED, []), [])
        self.assertEqual(cost_classes(WIDE, []), [])
        self.assertEqual(cost_classes(TWISTED, [COST]), [0])
        self.assertEqual(cost_classes(TWISTED, [COST, CUBIC, (0, 2, 2, 0), COST, (1, 2, 2, 1)]),
                         [0, 1, 0, 0, 0])
        self.assertEqual(cost_classes(ONES, [(3, 2, 1), (1, 2, 3), (0, 1, 2), (0, 0, 0), (2, 1, 0)]),
                         [0, 1, 1, 0, 0])
        self.assertEqual(cost_classes(SLOPED, [(1, 2), (5, -5), (0, 0)]), [0, 0, 0])


class Example(unittest.TestCase):
    """[176], what it says of costs"""

    def test_the_example(self):
        self.assertIs(alike_costs(ONES, (1, 2, 3), (0, 1, 2)), True)
        self.assertIs(alike_costs(ONES, (1, 2, 3), (3, 2, 1)), False)
        self.assertEqual(parting_side(ONES, (1, 2, 3), (3, 2, 1)), (1,))
        self.assertIsNone(parting_side(ONES, (1, 2, 3), (0, 1, 2)))


class Wrong(unittest.TestCase):
    """The errors, and their order"""

    def check_errors(self, function, good, wrongs):
        for arguments, error in wrong_calls(good, wrongs):
            with self.subTest(function.__name__, arguments=arguments):
                with self.assertRaises(error):
                    function(*arguments)

    def test_errors(self):
        costs = [(at, cost, NotCost) for at in (1, 2) for cost in NO_COSTS]
        for function in (alike_costs, parting_side):
            self.check_errors(function, (TWISTED, COST, CUBIC), START[:2] + costs)
        lists = [(1, [COST, cost], NotCost) for cost in NO_COSTS]
        self.check_errors(cost_classes, (TWISTED, [COST, CUBIC]), START[:2] + lists)

    def test_too_large(self):
        zeros = (0,) * 6
        start = [(0, ((9, 8, 7, 6, 5, 10),), NotMatrix), (0, ((9, 8, 7, 6, 5, -4),), NotPointed)]
        for function in (alike_costs, parting_side):
            self.check_errors(function, (WIDE, zeros, zeros),
                              start + [(1, zeros[1:], NotCost), (2, zeros[1:], NotCost)])
            with self.assertRaises(TooLarge):
                function(WIDE, zeros, zeros)
        with self.assertRaises(TooLarge):
            cost_classes(WIDE, [zeros])

    def test_fresh_lists(self):
        given = [COST, CUBIC]
        once = cost_classes(TWISTED, given)
        once.clear()
        self.assertEqual(cost_classes(TWISTED, given), [0, 1])
        self.assertEqual(given, [COST, CUBIC])


if __name__ == "__main__":
    unittest.main()
