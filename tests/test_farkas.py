"""Promises [33], [36] and [37]: Farkas papers, bases and solutions with fractions."""

import unittest
from fractions import Fraction
from math import gcd

from tallyhull.errors import NotMatrix, NotPointed, NotSide
from tallyhull.farkas import (
    bases, farkas_paper, first_base, fraction_solution, is_farkas_paper, is_fraction_solution)
from tallyhull.matrices import is_pointed
from tests.samples import (
    FLAT, GAPPED, NO_MATRIX, POINTED, RINGED, TWISTED, all_rows, bases_by_hand, columns_by_hand,
    dot, first_by_hand, mixed, sides_near)

SQUARE = ((1, 1, 1, 1), (0, 1, 0, 1), (0, 0, 1, 1))
MIXED = [matrix for matrix in mixed(51, 50, -2, 4) if is_pointed(matrix)]


def near(matrix):
    return sides_near(matrix, 4 if len(matrix) < 3 else 2)


def is_right_paper(matrix, side, row):
    return (len(row) == len(matrix) and dot(row, side) < 0
            and all(dot(row, column) >= 0 for column in columns_by_hand(matrix)))


class Papers(unittest.TestCase):
    """[33]"""

    def test_exactly_one_of_both_kinds(self):
        for matrix in POINTED + MIXED:
            for side in near(matrix):
                row = farkas_paper(matrix, side)
                numbers = fraction_solution(matrix, side)
                self.assertNotEqual(row is None, numbers is None, (matrix, side))
                if row is not None:
                    self.assertTrue(is_right_paper(matrix, side, row), (matrix, side, row))
                    self.assertIs(is_farkas_paper(matrix, side, row), True)
                else:
                    self.check_numbers(matrix, side, numbers)
                    self.assertIs(is_fraction_solution(matrix, side, numbers), True)

    def check_numbers(self, matrix, side, numbers):
        self.assertIsInstance(numbers, tuple)
        self.assertEqual(len(numbers), len(matrix[0]))
        for above, below in numbers:
            self.assertGreaterEqual(above, 0)
            self.assertGreater(below, 0)
            self.assertEqual(gcd(above, below), 1)
        values = [Fraction(above, below) for above, below in numbers]
        for row, target in zip(matrix, side):
            self.assertEqual(sum(a * b for a, b in zip(row, values)), target)

    def test_papers_against_their_words(self):
        for matrix in (GAPPED, FLAT, ((2, 3),), ((-2, -4, -6),), ((5, -2, 1), (-1, 1, 0))):
            for side in sides_near(matrix, 3):
                for row in all_rows(len(matrix), 3):
                    self.assertIs(is_farkas_paper(matrix, side, row),
                                  is_right_paper(matrix, side, row), (matrix, side, row))

    def test_papers_by_hand(self):
        self.assertIs(is_farkas_paper(GAPPED, (1, 4), (3, -1)), True)
        self.assertIs(is_farkas_paper(GAPPED, (1, 4), (300, -100)), True)
        self.assertIs(is_farkas_paper(GAPPED, (1, 3), (3, -1)), False)     # the product is 0
        self.assertIs(is_farkas_paper(GAPPED, (1, 4), (2, -1)), False)     # it does not hold
        self.assertIs(is_farkas_paper(GAPPED, (1, 4), (0, 0)), False)
        self.assertIs(is_farkas_paper(GAPPED, (1, 4), (-3, 1)), False)
        self.assertIs(is_farkas_paper(FLAT, (1, 1), (-2, 1)), True)
        self.assertIs(is_farkas_paper(FLAT, (1, 1), (2, -1)), False)
        self.assertIs(is_farkas_paper(FLAT, (1, 3), (2, -1)), True)
        for row in ((), (3,), (3, -1, 0)):
            self.assertIs(is_farkas_paper(GAPPED, (1, 4), row), False)

    def test_no_paper_in_the_cone(self):
        for side in ((0, 0), (1, 2), (1, 0), (1, 3), (1000000, 1000000)):
            self.assertIsNone(farkas_paper(GAPPED, side))

    def test_outside_of_the_span(self):
        for side in ((1, 1), (-1, -1), (1, 3), (-1, -3), (0, 1), (1000000, -1000000)):
            self.assertTrue(is_right_paper(FLAT, side, farkas_paper(FLAT, side)))
            self.assertIsNone(first_base(FLAT, side))
            self.assertIsNone(fraction_solution(FLAT, side))


class FractionSolutions(unittest.TestCase):
    """[33]"""

    def test_by_hand(self):
        zero, one, third = (0, 1), (1, 1), (1, 3)
        self.assertIs(is_fraction_solution(GAPPED, (1, 2), (third, zero, (2, 3))), True)
        self.assertIs(is_fraction_solution(GAPPED, (1, 2), (zero, (1, 2), (1, 2))), True)
        self.assertIs(is_fraction_solution(GAPPED, (2, 4), (zero, one, one)), True)
        self.assertIs(is_fraction_solution(GAPPED, (2, 4), (zero, one, zero)), False)
        self.assertIs(is_fraction_solution(GAPPED, (2, 1), (one, zero, one)), False)
        self.assertIs(is_fraction_solution(GAPPED, (0, 0), (zero, zero, zero)), True)

    def test_less_than_zero(self):
        self.assertIs(is_fraction_solution(
            GAPPED, (2, 2), ((-2, 1), (5, 1), (-1, 1))), False)
        self.assertIs(is_fraction_solution(
            GAPPED, (1, 2), ((-1, 3), (1, 1), (1, 3))), False)

    def test_not_in_lowest_terms(self):
        zero = (0, 1)
        for numbers in [((2, 6), zero, (2, 3)), ((1, 3), (0, 2), (2, 3)), ((1, 3), zero, (4, 6)),
                        ((-1, -3), zero, (2, 3)), ((1, 3), (0, -1), (2, 3)),
                        ((1, 3), (0, 0), (2, 3)), ((1, 3), zero, (-2, -3)), ((1, 0), zero, (2, 3))]:
            with self.subTest(numbers):
                self.assertIs(is_fraction_solution(GAPPED, (1, 2), numbers), False)
        self.assertIs(is_fraction_solution(((2, 3),), (4,), ((4, 2), (0, 1))), False)
        self.assertIs(is_fraction_solution(((2, 3),), (4,), ((2, 1), (0, 1))), True)

    def test_wrong_lengths(self):
        zero = (0, 1)
        for numbers in [(), ((1, 3), zero), ((1, 3), zero, (2, 3), zero)]:
            self.assertIs(is_fraction_solution(GAPPED, (1, 2), numbers), False)

    def test_each_row_counts(self):
        self.assertIs(is_fraction_solution(((1, 0), (0, 1)), (1, 1), ((1, 1), (1, 1))), True)
        self.assertIs(is_fraction_solution(((1, 0), (0, 1)), (1, 1), ((1, 1), (2, 1))), False)
        self.assertIs(is_fraction_solution(((1, 0), (0, 1)), (1, 1), ((2, 1), (1, 1))), False)

    def test_great_numbers(self):
        many = 10 ** 30
        self.assertIs(is_fraction_solution(((1, 1),), (1,), ((1, many), (many - 1, many))), True)
        self.assertIs(is_fraction_solution(((1, 1),), (1,), ((1, many), (many - 3, many))), False)


class Bases(unittest.TestCase):
    """[36]"""

    def test_all_of_them(self):
        for matrix in POINTED + MIXED:
            found = bases(matrix)
            self.assertIsInstance(found, list)
            self.assertEqual(found, bases_by_hand(matrix))

    def test_by_hand(self):
        self.assertEqual(bases(GAPPED), [(0, 1), (0, 2), (1, 2)])
        self.assertEqual(bases(FLAT), [(0,), (1,)])
        self.assertEqual(bases(((1, 1, 2, 3), (1, 1, 0, 0))), [(0, 2), (0, 3), (1, 2), (1, 3)])
        self.assertEqual(bases(((1, 0, 0, 1), (0, 1, 0, 1), (0, 0, 1, 0))),
                         [(0, 1, 2), (0, 2, 3), (1, 2, 3)])

    def test_first_bases(self):
        for matrix in POINTED + MIXED:
            for side in near(matrix):
                wanted = first_by_hand(matrix, side)
                if wanted is None:
                    self.assertIsNone(first_base(matrix, side))
                    self.assertIsNone(fraction_solution(matrix, side))
                    continue
                places, values = wanted
                self.assertEqual(first_base(matrix, side), places)
                numbers = [(0, 1)] * len(matrix[0])
                for place, value in zip(places, values):
                    numbers[place] = (value.numerator, value.denominator)
                self.assertEqual(fraction_solution(matrix, side), tuple(numbers))

    def test_the_side_of_zeros(self):
        for matrix in POINTED:
            side = (0,) * len(matrix)
            self.assertEqual(first_base(matrix, side), bases(matrix)[0])
            self.assertEqual(fraction_solution(matrix, side), ((0, 1),) * len(matrix[0]))

    def test_first_ones_by_hand(self):
        self.assertEqual(first_base(GAPPED, (2, 1)), (0, 1))
        self.assertEqual(fraction_solution(GAPPED, (2, 1)), ((1, 1), (1, 1), (0, 1)))
        self.assertEqual(first_base(GAPPED, (1, 3)), (0, 2))
        self.assertEqual(first_base(TWISTED, (2, 5)), (0, 3))
        self.assertEqual(fraction_solution(TWISTED, (2, 5)), ((1, 3), (0, 1), (0, 1), (5, 3)))
        self.assertEqual(fraction_solution(((9,),), (1000000,)), ((1000000, 9),))
        self.assertEqual(first_base(SQUARE, (2, 1, 1)), (0, 1, 2))
        self.assertEqual(fraction_solution(SQUARE, (2, 1, 1)),
                         ((0, 1), (1, 1), (1, 1), (0, 1)))


class Errors(unittest.TestCase):

    CALLS = [lambda matrix, side: farkas_paper(matrix, side),
             lambda matrix, side: is_farkas_paper(matrix, side, ()),
             lambda matrix, side: first_base(matrix, side),
             lambda matrix, side: fraction_solution(matrix, side),
             lambda matrix, side: is_fraction_solution(matrix, side, ())]

    def test_not_matrix_comes_first(self):
        for bad in NO_MATRIX:
            for call in self.CALLS:
                with self.assertRaises(NotMatrix):
                    call(bad, ())
            with self.assertRaises(NotMatrix):
                bases(bad)

    def test_then_not_pointed(self):
        for matrix in RINGED:
            for call in self.CALLS:
                with self.assertRaises(NotPointed):
                    call(matrix, ())
            with self.assertRaises(NotPointed):
                bases(matrix)

    def test_then_not_side(self):
        for side in ((), (1,), (1, 2, 3), (1000001, 0), (0, -1000001)):
            for call in self.CALLS:
                with self.assertRaises(NotSide):
                    call(GAPPED, side)

    def test_lists_are_new_each_time(self):
        for matrix in (FLAT, GAPPED, SQUARE):
            kept = list(bases(matrix))
            found = bases(matrix)
            found.append("more")
            found[0] = None
            self.assertEqual(bases(matrix), kept)


class Example(unittest.TestCase):
    """[37]"""

    def test_the_gapped_matrix(self):
        matrix = ((1, 1, 1), (0, 1, 3))
        self.assertEqual(first_base(matrix, (1, 2)), (0, 2))
        self.assertEqual(fraction_solution(matrix, (1, 2)), ((1, 3), (0, 1), (2, 3)))
        self.assertIs(is_farkas_paper(matrix, (1, 4), (3, -1)), True)
        self.assertTrue(is_right_paper(matrix, (1, 4), farkas_paper(matrix, (1, 4))))


if __name__ == "__main__":
    unittest.main()
