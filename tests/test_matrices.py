"""Promises [1] to [6]: matrices, sides, vectors, costs, and pointed answers."""

import unittest
from itertools import product

from tallyhull import matrices
from tallyhull.errors import NotCost, NotMatrix, NotPointed, NotSide, NotVector
from tallyhull.matrices import (
    check_cost, check_matrix, check_pointed, check_side, check_vector, columns, comes_before,
    image, is_cost, is_matrix, is_pointed, is_pointed_answer, is_ring, is_side, is_solution,
    is_vector, is_weight, pointed_answer, price)
from tests.samples import (
    GAPPED, NO_MATRIX, POINTED, RINGED, TWISTED, columns_by_hand, dot, has_small_ring,
    image_by_hand, mixed)

HUGE = 10 ** 40


class Matrices(unittest.TestCase):
    """[1]"""

    def test_what_is_a_matrix(self):
        for matrix in POINTED + RINGED + [
                ((9,),), ((-9,),), ((0,),), ((9, -9, 0, 9, -9, 9),), ((1,), (2,), (3,)),
                ((-9,) * 6,) * 3, ((9,) * 6,) * 3, ((1, 2, 3, 4, 5, 6),) * 2]:
            with self.subTest(matrix):
                self.assertIs(is_matrix(matrix), True)
                self.assertIsNone(check_matrix(matrix))

    def test_what_is_none(self):
        for matrix in NO_MATRIX:
            with self.subTest(matrix):
                self.assertIs(is_matrix(matrix), False)
                with self.assertRaises(NotMatrix):
                    check_matrix(matrix)

    def test_one_wrong_entry_anywhere(self):
        for row, column in product(range(3), range(6)):
            for wrong in (10, -10):
                lists = [[9] * 6 for _ in range(3)]
                lists[row][column] = wrong
                self.assertIs(is_matrix(tuple(tuple(entries) for entries in lists)), False)

    def test_columns(self):
        self.assertEqual(columns(TWISTED), [(1, 0), (1, 1), (1, 2), (1, 3)])
        self.assertEqual(columns(((4,),)), [(4,)])
        self.assertEqual(columns(((1, 2, 3, 4, 5, 6),)), [(1,), (2,), (3,), (4,), (5,), (6,)])
        self.assertEqual(columns(((1,), (2,), (3,))), [(1, 2, 3)])
        self.assertEqual(columns(((1, 1), (2, 2))), [(1, 2), (1, 2)])

    def test_columns_are_new_each_time(self):
        found = columns(TWISTED)
        found.pop()
        found[0] = None
        self.assertEqual(columns(TWISTED), [(1, 0), (1, 1), (1, 2), (1, 3)])

    def test_vectors(self):
        self.assertIs(is_vector(TWISTED, (0, 0, 0, 0)), True)
        self.assertIs(is_vector(TWISTED, (HUGE, -HUGE, 1, -1)), True)
        self.assertIsNone(check_vector(TWISTED, (HUGE, -HUGE, 1, -1)))
        for vector in ((), (1,), (1, 2, 3), (1, 2, 3, 4, 5)):
            with self.subTest(vector):
                self.assertIs(is_vector(TWISTED, vector), False)
                with self.assertRaises(NotVector):
                    check_vector(TWISTED, vector)

    def test_image(self):
        self.assertEqual(image(TWISTED, (1, 2, 3, 4)), (10, 20))
        self.assertEqual(image(TWISTED, (0, 0, 0, 0)), (0, 0))
        self.assertEqual(image(TWISTED, (-1, 2, -1, 0)), (0, 0))
        self.assertEqual(image(((9,),), (HUGE,)), (9 * HUGE,))
        self.assertEqual(image(((1, 0), (0, 1), (-9, 9)), (5, -7)), (5, -7, -108))
        for vector in ((), (1, 2, 3), (1, 2, 3, 4, 5)):
            with self.assertRaises(NotVector):
                image(TWISTED, vector)


class SidesAndCosts(unittest.TestCase):
    """[2]"""

    def test_sides(self):
        for side in ((0, 0), (1000000, -1000000), (-1000000, 1000000), (3, 4)):
            with self.subTest(side):
                self.assertIs(is_side(TWISTED, side), True)
                self.assertIsNone(check_side(TWISTED, side))
        for side in ((1000001, 0), (0, -1000001), (0, 1000001), (-1000001, 0), (HUGE, 0),
                     (), (1,), (1, 2, 3)):
            with self.subTest(side):
                self.assertIs(is_side(TWISTED, side), False)
                with self.assertRaises(NotSide):
                    check_side(TWISTED, side)

    def test_costs(self):
        for cost in ((0, 0, 0, 0), (50, -50, 50, -50), (-50, 50, 1, 2)):
            with self.subTest(cost):
                self.assertIs(is_cost(TWISTED, cost), True)
                self.assertIsNone(check_cost(TWISTED, cost))
        for cost in ((51, 0, 0, 0), (0, -51, 0, 0), (0, 0, 0, 51), (-51, 0, 0, 0), (0, 0, HUGE, 0),
                     (), (1, 2, 3), (1, 2, 3, 4, 5)):
            with self.subTest(cost):
                self.assertIs(is_cost(TWISTED, cost), False)
                with self.assertRaises(NotCost):
                    check_cost(TWISTED, cost)

    def test_solutions(self):
        for vector in ((0, 2, 1, 0), (1, 0, 2, 0), (1, 1, 0, 1)):
            self.assertIs(is_solution(TWISTED, (3, 4), vector), True)
        # the image is right, an entry is below 0
        self.assertIs(is_solution(TWISTED, (3, 4), (2, -2, 3, 0)), False)
        # the image is wrong in the second row, then in the first
        self.assertIs(is_solution(TWISTED, (3, 4), (2, 0, 0, 1)), False)
        self.assertIs(is_solution(TWISTED, (3, 4), (3, 1, 0, 1)), False)
        self.assertIs(is_solution(TWISTED, (0, 0), (0, 0, 0, 0)), True)
        self.assertIs(is_solution(TWISTED, (0, 0), (1, 0, 0, 0)), False)
        self.assertIs(is_solution(((1, -2),), (0,), (2, 1)), True)
        self.assertIs(is_solution(((9,),), (999999,), (111111,)), True)

    def test_what_no_solution_can_be_asked_of(self):
        for side in ((1,), (1, 2, 3), (1000001, 0)):
            with self.assertRaises(NotSide):
                is_solution(TWISTED, side, (0, 0, 0, 0))
        for vector in ((), (1, 1, 1), (1, 1, 1, 1, 1)):
            with self.assertRaises(NotVector):
                is_solution(TWISTED, (3, 4), vector)

    def test_price(self):
        self.assertEqual(price(TWISTED, (0, 1, 1, 0), (1, 1, 0, 1)), 1)
        self.assertEqual(price(TWISTED, (50, -50, 3, 0), (2, 1, -5, HUGE)), 35)
        self.assertEqual(price(TWISTED, (0, 0, 0, 50), (0, 0, 0, HUGE)), 50 * HUGE)
        self.assertEqual(price(((1,),), (0,), (7,)), 0)
        with self.assertRaises(NotCost):
            price(TWISTED, (51, 0, 0, 0), (0, 0, 0, 0))
        with self.assertRaises(NotVector):
            price(TWISTED, (50, 0, 0, 0), (0, 0, 0))


class Order(unittest.TestCase):
    """[3]"""

    def test_a_less_price_comes_before(self):
        cost = (0, 1, 1, 0)
        self.assertIs(comes_before(TWISTED, cost, (9, 0, 0, 0), (0, 1, 0, 0)), True)
        self.assertIs(comes_before(TWISTED, cost, (0, 1, 0, 0), (9, 0, 0, 0)), False)

    def test_equal_prices_leave_it_to_the_tuples(self):
        cost = (0, 1, 1, 0)
        self.assertIs(comes_before(TWISTED, cost, (0, 0, 1, 9), (0, 1, 0, 0)), True)
        self.assertIs(comes_before(TWISTED, cost, (0, 1, 0, 0), (0, 0, 1, 9)), False)
        self.assertIs(comes_before(TWISTED, (0, 0, 0, 0), (0, 0, 0, -1), (0, 0, 0, 0)), True)

    def test_equal_vectors(self):
        self.assertIs(comes_before(TWISTED, (1, 2, 3, 4), (1, 0, 2, 0), (1, 0, 2, 0)), False)

    def test_vectors_of_other_images_and_signs(self):
        self.assertIs(comes_before(TWISTED, (1, 1, 1, 1), (-HUGE, 0, 0, 0), (0, 0, 0, 0)), True)
        self.assertIs(comes_before(((1, 1),), (-1, 1), (0, 5), (0, 4)), False)

    def test_the_order_stays_if_a_vector_is_added(self):
        vectors = list(product((-1, 0, 2), repeat=3))
        for cost in ((1, 1, 2), (0, 0, 0), (-3, 1, 2)):
            for one, other in product(vectors, repeat=2):
                before = comes_before(GAPPED, cost, one, other)
                self.assertEqual(before, (dot(cost, one), one) < (dot(cost, other), other))
                for more in ((4, -2, 7), (-1, 0, 0)):
                    first = tuple(a + b for a, b in zip(one, more))
                    second = tuple(a + b for a, b in zip(other, more))
                    self.assertEqual(comes_before(GAPPED, cost, first, second), before)

    def test_what_it_raises(self):
        with self.assertRaises(NotCost):
            comes_before(TWISTED, (0, 0, 0), (0, 0, 0, 0), (0, 0, 0, 0))
        with self.assertRaises(NotVector):
            comes_before(TWISTED, (0, 0, 0, 0), (0, 0, 0), (0, 0, 0, 0))
        with self.assertRaises(NotVector):
            comes_before(TWISTED, (0, 0, 0, 0), (0, 0, 0, 0), (0, 0, 0, 0, 0))


class Pointed(unittest.TestCase):
    """[4] and [5]"""

    def test_pointed_matrices(self):
        for matrix in POINTED:
            with self.subTest(matrix):
                kind, row = pointed_answer(matrix)
                self.assertEqual(kind, "weight")
                self.assertEqual(len(row), len(matrix))
                self.assertTrue(all(dot(row, column) >= 1 for column in columns_by_hand(matrix)))
                self.assertIs(is_weight(matrix, row), True)
                self.assertIs(is_pointed(matrix), True)
                self.assertIsNone(check_pointed(matrix))
                self.assertIs(is_pointed_answer(matrix, (kind, row)), True)
                self.assertIs(is_pointed_answer(matrix, ("ring", row)), False)

    def test_matrices_with_a_ring(self):
        for matrix in RINGED:
            with self.subTest(matrix):
                kind, vector = pointed_answer(matrix)
                self.assertEqual(kind, "ring")
                self.assertEqual(len(vector), len(matrix[0]))
                self.assertGreaterEqual(min(vector), 0)
                self.assertTrue(any(vector))
                self.assertFalse(any(image_by_hand(matrix, vector)))
                self.assertIs(is_ring(matrix, vector), True)
                self.assertIs(is_pointed(matrix), False)
                with self.assertRaises(NotPointed):
                    check_pointed(matrix)
                self.assertIs(is_pointed_answer(matrix, (kind, vector)), True)
                self.assertIs(is_pointed_answer(matrix, ("weight", vector)), False)

    def test_every_answer_is_right(self):
        for matrix in mixed(11, 400, -2, 3) + mixed(12, 200, -9, 9) + mixed(13, 100, -1, 1):
            kind, numbers = pointed_answer(matrix)
            self.assertIs(is_pointed(matrix), kind == "weight")
            if kind == "weight":
                self.assertEqual(len(numbers), len(matrix))
                self.assertTrue(all(dot(numbers, column) >= 1
                                    for column in columns_by_hand(matrix)), matrix)
                self.assertFalse(has_small_ring(matrix, 2), matrix)
            else:
                self.assertEqual(kind, "ring")
                self.assertEqual(len(numbers), len(matrix[0]))
                self.assertTrue(min(numbers) >= 0 and any(numbers), matrix)
                self.assertFalse(any(image_by_hand(matrix, numbers)), matrix)

    def test_weights(self):
        self.assertIs(is_weight(TWISTED, (1, 0)), True)
        self.assertIs(is_weight(TWISTED, (4, -1)), True)
        self.assertIs(is_weight(TWISTED, (3, -1)), False)       # a product is 0
        self.assertIs(is_weight(TWISTED, (0, 1)), False)
        self.assertIs(is_weight(TWISTED, (0, 0)), False)
        self.assertIs(is_weight(TWISTED, (-1, 0)), False)
        self.assertIs(is_weight(TWISTED, (HUGE, 1)), True)
        self.assertIs(is_weight(((-2, -1),), (-1,)), True)
        for row in ((), (1,), (1, 0, 0)):
            self.assertIs(is_weight(TWISTED, row), False)

    def test_rings(self):
        self.assertIs(is_ring(((1, -2),), (2, 1)), True)
        self.assertIs(is_ring(((1, -2),), (2 * HUGE, HUGE)), True)
        self.assertIs(is_ring(((1, -2),), (0, 0)), False)
        self.assertIs(is_ring(((1, -2),), (-2, -1)), False)
        self.assertIs(is_ring(((1, -2),), (1, 1)), False)
        self.assertIs(is_ring(((1, 0),), (0, 1)), True)
        self.assertIs(is_ring(((1, 1),), (1, -1)), False)       # an entry is below 0
        self.assertIs(is_ring(((1, -1), (1, 1)), (1, 1)), False)    # one row alone is 0

    def test_no_ring_has_a_wrong_length(self):
        for vector in ((), (0,), (2, 1, 0)):
            self.assertIs(is_pointed_answer(((1, -2),), ("ring", vector)), False)
            try:
                self.assertIs(is_ring(((1, -2),), vector), False)
            except NotVector:
                pass

    def test_pointed_answers(self):
        self.assertIs(is_pointed_answer(TWISTED, ("weight", (1, 0))), True)
        self.assertIs(is_pointed_answer(TWISTED, ("weight", (3, -1))), False)
        self.assertIs(is_pointed_answer(TWISTED, ("weight", (0, 0))), False)
        self.assertIs(is_pointed_answer(TWISTED, ("weight", (1,))), False)
        self.assertIs(is_pointed_answer(TWISTED, ("weight", (1, 0, 0))), False)
        self.assertIs(is_pointed_answer(TWISTED, ("ring", (0, 0, 0, 0))), False)
        self.assertIs(is_pointed_answer(TWISTED, ("ring", (1, -2, 1, 0))), False)
        self.assertIs(is_pointed_answer(((1, -2),), ("ring", (2, 1))), True)
        self.assertIs(is_pointed_answer(((1, -2),), ("ring", (4, 2))), True)
        self.assertIs(is_pointed_answer(((1, -2),), ("ring", (0, 0))), False)
        self.assertIs(is_pointed_answer(((1, -2),), ("ring", (-2, -1))), False)
        self.assertIs(is_pointed_answer(((1, -2),), ("ring", (1, 2))), False)
        self.assertIs(is_pointed_answer(((1, -2),), ("weight", (1,))), False)

    def test_a_weight_bounds_the_solutions(self):
        for matrix in (TWISTED, GAPPED, ((2, 3),), ((1, 0, 1, -1), (0, 1, 1, 3))):
            _, row = pointed_answer(matrix)
            for vector in product(range(4), repeat=len(matrix[0])):
                self.assertLessEqual(sum(vector), dot(row, image(matrix, vector)))


class Errors(unittest.TestCase):

    def test_not_matrix_comes_first(self):
        calls = [
            lambda bad: check_matrix(bad), lambda bad: is_side(bad, (1,)),
            lambda bad: is_vector(bad, (1,)), lambda bad: is_cost(bad, (1,)),
            lambda bad: check_side(bad, (HUGE,)), lambda bad: check_vector(bad, ()),
            lambda bad: check_cost(bad, (HUGE,)), lambda bad: columns(bad),
            lambda bad: image(bad, ()), lambda bad: is_solution(bad, (HUGE,), ()),
            lambda bad: price(bad, (HUGE,), ()), lambda bad: comes_before(bad, (HUGE,), (), ()),
            lambda bad: is_weight(bad, (1,)), lambda bad: is_ring(bad, (1,)),
            lambda bad: pointed_answer(bad), lambda bad: is_pointed_answer(bad, ("weight", (1,))),
            lambda bad: is_pointed_answer(bad, ("ring", (1,))),
            lambda bad: is_pointed(bad), lambda bad: check_pointed(bad),
        ]
        for bad in NO_MATRIX:
            for place, call in enumerate(calls):
                with self.subTest(bad, call=place):
                    with self.assertRaises(NotMatrix):
                        call(bad)

    def test_then_the_order_of_the_parameters(self):
        with self.assertRaises(NotSide):
            is_solution(TWISTED, (1,), (1,))
        with self.assertRaises(NotSide):
            is_solution(TWISTED, (1000001, 0), ())
        with self.assertRaises(NotCost):
            price(TWISTED, (51, 0, 0, 0), (1,))
        with self.assertRaises(NotCost):
            comes_before(TWISTED, (1,), (1,), (1,))


class Example(unittest.TestCase):
    """[6]"""

    def test_the_twisted_matrix(self):
        matrix = ((1, 1, 1, 1), (0, 1, 2, 3))
        self.assertIs(is_weight(matrix, (1, 0)), True)
        self.assertIs(is_pointed(matrix), True)
        found = [vector for vector in product(range(5), repeat=4)
                 if is_solution(matrix, (3, 4), vector)]
        self.assertEqual(found, [(0, 2, 1, 0), (1, 0, 2, 0), (1, 1, 0, 1)])
        cost = (0, 1, 1, 0)
        first = (1, 1, 0, 1)
        for vector in found:
            self.assertEqual(comes_before(matrix, cost, first, vector), vector != first)
        self.assertEqual(price(matrix, cost, first), 1)

    def test_the_ring(self):
        self.assertIs(is_ring(((1, -2),), (2, 1)), True)
        self.assertIs(is_pointed(((1, -2),)), False)


if __name__ == "__main__":
    unittest.main()
