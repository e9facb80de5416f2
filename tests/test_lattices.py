"""Promises [22] to [26]: side lattices, rest papers and null lattices."""

import unittest
from itertools import product

from tallyhull.errors import NotMatrix, NotSide, NotVector
from tallyhull.lattices import (
    is_lattice_answer, is_rest_paper, lattice_answer, null_basis, null_coordinates, side_basis,
    side_index)
from tests.samples import (
    FLAT, NO_MATRIX, POINTED, RINGED, SLOPED, TWISTED, all_rows, columns_by_hand, dot,
    image_by_hand, minors_divisor, mixed, rank_by_fractions)
from tests.test_hermite import combined, in_stairs_form

SAMPLES = POINTED + RINGED


def is_rest(matrix, side, row, m):
    """[23], as it stands there."""
    def divided(number):
        return number == 0 if m == 0 else number % m == 0
    return (len(row) == len(matrix) and m >= 0 and m != 1
            and all(divided(dot(row, column)) for column in columns_by_hand(matrix))
            and not divided(dot(row, side)))


class SideLattices(unittest.TestCase):
    """[22]"""

    def test_the_basis(self):
        for matrix in SAMPLES + mixed(31, 150, -4, 9):
            with self.subTest(matrix):
                basis = side_basis(matrix)
                columns = columns_by_hand(matrix)
                size = rank_by_fractions(columns)
                self.assertIsInstance(basis, tuple)
                self.assertTrue(in_stairs_form(basis))
                self.assertEqual(len(basis), size)
                if size:
                    both = list(basis) + columns
                    self.assertEqual(rank_by_fractions(both), size)
                    divisor = minors_divisor(columns, size)
                    self.assertEqual(minors_divisor(list(basis), size), divisor)
                    self.assertEqual(minors_divisor(both, size), divisor)

    def test_the_index(self):
        for matrix in SAMPLES + mixed(32, 150, -4, 9):
            with self.subTest(matrix):
                columns = columns_by_hand(matrix)
                if rank_by_fractions(columns) < len(matrix):
                    self.assertIsNone(side_index(matrix))
                else:
                    self.assertEqual(side_index(matrix), minors_divisor(columns, len(matrix)))

    def test_by_hand(self):
        self.assertEqual(side_basis(((4, 6),)), ((2,),))
        self.assertEqual(side_index(((4, 6),)), 2)
        self.assertEqual(side_basis(((-9,),)), ((9,),))
        self.assertEqual(side_index(((-9,),)), 9)
        self.assertEqual(side_basis(FLAT), ((1, 2),))
        self.assertIsNone(side_index(FLAT))
        self.assertEqual(side_basis(((0, 0), (0, 0))), ())
        self.assertIsNone(side_index(((0, 0), (0, 0))))
        self.assertIsNone(side_index(((0,),)))
        self.assertEqual(side_index(((9, 0, 0), (0, 9, 0), (0, 0, 9))), 729)

    def test_as_many_classes_as_the_index(self):
        for matrix in (SLOPED, ((4, 6),), ((2, 0, 1), (0, 3, 1)), TWISTED, ((3, 0), (1, 2))):
            seen = []
            for side in all_rows(len(matrix), 6):
                if not any(lattice_answer(matrix, tuple(a - b for a, b in zip(side, other)))[0]
                           == "whole" for other in seen):
                    seen.append(side)
            self.assertEqual(len(seen), side_index(matrix))


class LatticeAnswers(unittest.TestCase):
    """[23] and [24]"""

    def test_every_answer_is_right(self):
        for matrix in SAMPLES + mixed(33, 40, -5, 6):
            most = 4 if len(matrix) < 3 else 2
            for side in all_rows(len(matrix), most):
                answer = lattice_answer(matrix, side)
                if answer[0] == "whole":
                    self.assertEqual(len(answer), 2)
                    self.assertEqual(len(answer[1]), len(matrix[0]))
                    self.assertEqual(image_by_hand(matrix, answer[1]), side)
                else:
                    self.assertEqual((answer[0], len(answer)), ("rest", 3))
                    self.assertTrue(is_rest(matrix, side, answer[1], answer[2]), (matrix, side))
                    self.assertIs(is_rest_paper(matrix, side, answer[1], answer[2]), True)
                self.assertIs(is_lattice_answer(matrix, side, answer), True)

    def test_images_are_in_the_lattice(self):
        for matrix in SAMPLES:
            for vector in product((-3, 0, 1), repeat=len(matrix[0])):
                side = image_by_hand(matrix, vector)
                kind, numbers = lattice_answer(matrix, side)
                self.assertEqual(kind, "whole")
                self.assertEqual(image_by_hand(matrix, numbers), side)
                self.assertIs(is_lattice_answer(matrix, side, ("whole", vector)), True)

    def test_great_sides(self):
        self.assertEqual(lattice_answer(((9,),), (999999,)), ("whole", (111111,)))
        self.assertEqual(lattice_answer(((9,),), (1000000,))[0], "rest")
        for side in ((1000000, -1000000), (-999999, 1000000)):
            kind, numbers = lattice_answer(TWISTED, side)
            self.assertEqual((kind, image_by_hand(TWISTED, numbers)), ("whole", side))

    def test_rest_papers_by_rests_and_by_zero(self):
        self.assertIs(is_rest_paper(SLOPED, (1, 0), (1, 0), 2), True)
        self.assertIs(is_rest_paper(SLOPED, (2, 0), (1, 0), 2), False)      # it divides the side's
        self.assertIs(is_rest_paper(SLOPED, (1, 0), (0, 1), 2), False)      # not a column's
        self.assertIs(is_rest_paper(SLOPED, (2, 2), (1, 1), 3), True)
        self.assertIs(is_rest_paper(SLOPED, (2, 2), (4, 1), 3), True)
        self.assertIs(is_rest_paper(SLOPED, (2, 2), (-2, 1), 3), True)
        self.assertIs(is_rest_paper(SLOPED, (1, 2), (1, 1), 3), False)
        self.assertIs(is_rest_paper(FLAT, (1, 1), (2, -1), 0), True)
        self.assertIs(is_rest_paper(FLAT, (1, 1), (-4, 2), 0), True)
        self.assertIs(is_rest_paper(FLAT, (3, 6), (2, -1), 0), False)
        self.assertIs(is_rest_paper(FLAT, (1, 1), (2, 0), 0), False)
        self.assertIs(is_rest_paper(FLAT, (1, 1), (0, 0), 0), False)
        self.assertIs(is_rest_paper(((0,),), (5,), (1,), 0), True)
        self.assertIs(is_rest_paper(((0,),), (5,), (1,), 7), True)
        self.assertIs(is_rest_paper(((0,),), (0,), (1,), 0), False)

    def test_no_rest_paper(self):
        for m in (1, -1, -2, -3):
            self.assertIs(is_rest_paper(SLOPED, (1, 0), (1, 0), m), False)
        self.assertIs(is_rest_paper(SLOPED, (2, 2), (1, 1), -3), False)
        for row in ((), (1,), (1, 0, 0)):
            self.assertIs(is_rest_paper(SLOPED, (1, 0), row, 2), False)
            self.assertIs(is_rest_paper(FLAT, (1, 1), row, 0), False)

    def test_rest_papers_against_their_words(self):
        for matrix in (SLOPED, FLAT, ((4, 6),), ((0, 0), (2, 3))):
            for side in all_rows(len(matrix), 2):
                for row in all_rows(len(matrix), 2):
                    for m in range(-3, 5):
                        self.assertIs(is_rest_paper(matrix, side, row, m),
                                      is_rest(matrix, side, row, m))

    def test_never_both_kinds(self):
        for matrix in (SLOPED, FLAT, ((4, 6),), ((2, 0, 1), (0, 3, 1))):
            for side in all_rows(len(matrix), 3):
                whole = lattice_answer(matrix, side)[0] == "whole"
                found = any(is_rest_paper(matrix, side, row, m)
                            for row in all_rows(len(matrix), 2) for m in (0, 2, 3, 4, 6))
                self.assertEqual(whole, not found)

    def test_lattice_answers(self):
        self.assertIs(is_lattice_answer(SLOPED, (2, 1), ("whole", (1, 0))), True)
        self.assertIs(is_lattice_answer(SLOPED, (-2, -4), ("whole", (1, -1))), True)
        self.assertIs(is_lattice_answer(SLOPED, (2, 1), ("whole", (0, 1))), False)
        self.assertIs(is_lattice_answer(SLOPED, (2, 1), ("whole", (1,))), False)
        self.assertIs(is_lattice_answer(SLOPED, (2, 1), ("whole", (1, 0, 0))), False)
        self.assertIs(is_lattice_answer(SLOPED, (2, 1), ("rest", (1, 0), 2)), False)
        self.assertIs(is_lattice_answer(SLOPED, (1, 0), ("rest", (1, 0), 2)), True)
        self.assertIs(is_lattice_answer(SLOPED, (1, 0), ("rest", (1, 0), 1)), False)
        self.assertIs(is_lattice_answer(SLOPED, (1, 0), ("rest", (1, 0), -2)), False)
        self.assertIs(is_lattice_answer(SLOPED, (1, 0), ("rest", (1,), 2)), False)
        self.assertIs(is_lattice_answer(SLOPED, (1, 0), ("whole", (0, 0))), False)
        self.assertIs(is_lattice_answer(FLAT, (1, 1), ("rest", (2, -1), 0)), True)


class NullLattices(unittest.TestCase):
    """[25]"""

    def test_the_basis(self):
        for matrix in SAMPLES + mixed(34, 200, -9, 9):
            with self.subTest(matrix):
                basis = null_basis(matrix)
                width = len(matrix[0])
                self.assertIsInstance(basis, tuple)
                self.assertTrue(in_stairs_form(basis))
                self.assertTrue(all(not any(image_by_hand(matrix, row)) for row in basis))
                self.assertEqual(len(basis), width - rank_by_fractions(columns_by_hand(matrix)))
                if basis:
                    # If a multiple of a vector is in it, the vector is.
                    self.assertEqual(minors_divisor(basis, len(basis)), 1)

    def test_by_hand(self):
        self.assertEqual(null_basis(((1, 0), (0, 1))), ())
        self.assertEqual(null_basis(((2, 4),)), ((2, -1),))
        self.assertEqual(null_basis(((0, 0),)), ((1, 0), (0, 1)))
        self.assertEqual(null_basis(((0, 3),)), ((1, 0),))

    def test_coordinates(self):
        for matrix in SAMPLES:
            basis = null_basis(matrix)
            for vector in product((-2, 0, 1), repeat=len(matrix[0])):
                found = null_coordinates(matrix, vector)
                if any(image_by_hand(matrix, vector)):
                    self.assertIsNone(found)
                else:
                    self.assertEqual(combined(basis, found, len(vector)), vector)
            for numbers in product((-7, 0, 10 ** 20), repeat=len(basis)):
                vector = combined(basis, numbers, len(matrix[0]))
                self.assertEqual(tuple(null_coordinates(matrix, vector)), numbers)

    def test_coordinates_by_hand(self):
        self.assertEqual(tuple(null_coordinates(TWISTED, (1, -2, 1, 0))), (1, -2))
        self.assertEqual(tuple(null_coordinates(TWISTED, (0, 0, 0, 0))), (0, 0))
        self.assertIsNone(null_coordinates(TWISTED, (1, 0, 0, 0)))
        self.assertEqual(tuple(null_coordinates(((1, 0), (0, 1)), (0, 0))), ())
        self.assertIsNone(null_coordinates(((1, 0), (0, 1)), (0, 1)))


class Errors(unittest.TestCase):

    def test_not_matrix_comes_first(self):
        for bad in NO_MATRIX:
            for call in (lambda: side_basis(bad), lambda: side_index(bad),
                         lambda: null_basis(bad), lambda: null_coordinates(bad, ()),
                         lambda: lattice_answer(bad, ()),
                         lambda: is_rest_paper(bad, (), (1,), 2),
                         lambda: is_lattice_answer(bad, (), ("whole", (1,)))):
                with self.assertRaises(NotMatrix):
                    call()

    def test_not_side(self):
        for side in ((), (1,), (1, 2, 3), (1000001, 0), (0, -1000001)):
            for call in (lambda: lattice_answer(SLOPED, side),
                         lambda: is_rest_paper(SLOPED, side, (1, 0), 2),
                         lambda: is_rest_paper(SLOPED, side, (), -1),
                         lambda: is_lattice_answer(SLOPED, side, ("rest", (1, 0), 2)),
                         lambda: is_lattice_answer(SLOPED, side, ("whole", (1, 0)))):
                with self.assertRaises(NotSide):
                    call()

    def test_not_vector(self):
        for vector in ((), (1, 2, 3), (0, 0, 0, 0, 0)):
            with self.assertRaises(NotVector):
                null_coordinates(TWISTED, vector)


class Example(unittest.TestCase):
    """[26]"""

    def test_the_twisted_matrix(self):
        matrix = ((1, 1, 1, 1), (0, 1, 2, 3))
        self.assertEqual(side_basis(matrix), ((1, 0), (0, 1)))
        self.assertEqual(side_index(matrix), 1)
        self.assertEqual(null_basis(matrix), ((1, 0, -3, 2), (0, 1, -2, 1)))

    def test_the_sloped_matrix(self):
        matrix = ((2, 4), (1, 5))
        self.assertEqual(side_basis(matrix), ((2, 1), (0, 3)))
        self.assertEqual(side_index(matrix), 6)
        self.assertIs(is_rest_paper(matrix, (1, 0), (1, 0), 2), True)
        self.assertIs(is_rest_paper(matrix, (2, 2), (1, 1), 3), True)
        self.assertIs(is_lattice_answer(matrix, (1, 0), ("rest", (1, 0), 2)), True)
        self.assertIs(is_lattice_answer(matrix, (2, 2), ("rest", (1, 1), 3)), True)


if __name__ == "__main__":
    unittest.main()
