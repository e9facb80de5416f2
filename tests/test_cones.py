"""Promises [30] to [32], [34], [35] and [37]: equations, facets, faces and rays."""

import unittest
from itertools import combinations, product
from math import gcd

from tallyhull.cones import (
    equations, face_of, faces, facets, fixed_places, is_face, is_in_cone, rank_of, rays)
from tallyhull.errors import NoAnswer, NotMatrix, NotPointed, NotSide
from tallyhull.matrices import is_pointed
from tests.samples import (
    FLAT, GAPPED, NO_MATRIX, POINTED, RINGED, SLOPED, TWISTED, all_rows, columns_by_hand, dot,
    first_by_hand, holding, image_by_hand, mixed, rank_by_fractions, sides_near)

SQUARE = ((1, 1, 1, 1), (0, 1, 0, 1), (0, 0, 1, 1))
SMALL = [matrix for matrix in POINTED + mixed(41, 60, -1, 2) if is_pointed(matrix)
         and (len(matrix) < 3 or max(max(row) for row in matrix) <= 2)
         and max(abs(entry) for row in matrix for entry in row) <= 5]


def bound_for(matrix):
    return 11 if len(matrix) < 3 else 5


def common_divisor(row):
    return gcd(*row)


class Equations(unittest.TestCase):
    """[31]"""

    def test_the_form(self):
        for matrix in POINTED + RINGED + mixed(42, 300, -3, 3):
            with self.subTest(matrix):
                found = equations(matrix)
                columns = columns_by_hand(matrix)
                size = rank_by_fractions(columns)
                self.assertIsInstance(found, list)
                self.assertEqual(len(found), len(matrix) - size)
                self.assertEqual(rank_of(matrix), size)
                places = [next(k for k, entry in enumerate(row) if entry) for row in found]
                self.assertEqual(places, sorted(set(places)))
                self.assertEqual(fixed_places(matrix), places)
                for row, place in zip(found, places):
                    self.assertEqual(len(row), len(matrix))
                    self.assertGreater(row[place], 0)
                    self.assertEqual(common_divisor(row), 1)
                    self.assertTrue(all(dot(row, column) == 0 for column in columns))
                    self.assertEqual([other[place] for other in found if other != row],
                                     [0] * (len(found) - 1))

    def test_by_hand(self):
        for matrix, rows in [
                (TWISTED, []), (((1, 2, 3), (0, 0, 0)), [(0, 1)]), (((0, 0), (2, 3)), [(1, 0)]),
                (((0,),), [(1,)]), (((0, 0), (0, 0), (0, 0)), [(1, 0, 0), (0, 1, 0), (0, 0, 1)]),
                (((2,), (3,), (6,)), [(3, 0, -1), (0, 2, -1)]),
                (((1, 2), (-1, -2), (3, 6)), [(3, 0, -1), (0, 3, 1)]),
                (((1, 1, 1, 1), (0, 1, 2, 3), (1, 2, 3, 4)), [(1, 1, -1)]),
                (((0, 1, 1), (0, 1, 1), (1, 0, 2)), [(1, -1, 0)]),
                (((4,), (6,)), [(3, -2)]), (((-4,), (6,)), [(3, 2)])]:
            with self.subTest(matrix):
                self.assertEqual(equations(matrix), rows)
                self.assertEqual(fixed_places(matrix), [
                    next(k for k, entry in enumerate(row) if entry) for row in rows])
                self.assertEqual(rank_of(matrix), len(matrix) - len(rows))

    def test_matrices_that_are_not_pointed(self):
        self.assertEqual(equations(((1, -2), (2, -4))), [(2, -1)])
        self.assertEqual(fixed_places(((1, -2), (2, -4))), [0])
        self.assertEqual(rank_of(((1, -2), (2, -4))), 1)
        self.assertEqual(rank_of(((0, 0),)), 0)
        self.assertEqual(rank_of(((1, 0, 0, -1), (0, 1, 0, -1), (0, 0, 1, -1))), 3)


class Facets(unittest.TestCase):
    """[32]"""

    def test_the_form(self):
        for matrix in POINTED + [found for found in mixed(43, 200, -2, 6) if is_pointed(found)]:
            with self.subTest(matrix):
                found = facets(matrix)
                columns = columns_by_hand(matrix)
                size = rank_by_fractions(columns)
                places = fixed_places(matrix)
                self.assertIsInstance(found, list)
                self.assertEqual(found, sorted(set(found)))
                self.assertTrue(found)
                for row in found:
                    self.assertEqual(len(row), len(matrix))
                    self.assertTrue(all(dot(row, column) >= 0 for column in columns))
                    self.assertEqual(common_divisor(row), 1)
                    self.assertFalse(any(row[place] for place in places))
                    flat = [column for column in columns if dot(row, column) == 0]
                    self.assertEqual(rank_by_fractions(flat), size - 1)
                if size == 1:
                    self.assertEqual(len(found), 1)
                    self.assertTrue(all(dot(found[0], column) > 0 for column in columns))

    def test_all_of_them(self):
        for matrix in SMALL:
            with self.subTest(matrix):
                columns = columns_by_hand(matrix)
                size = rank_by_fractions(columns)
                places = fixed_places(matrix)
                most = max(bound_for(matrix), max(max(abs(entry) for entry in row)
                                                  for row in facets(matrix)))
                wanted = [row for row in holding(matrix, most)
                          if any(row) and common_divisor(row) == 1
                          and not any(row[place] for place in places)
                          and rank_by_fractions([column for column in columns
                                                 if dot(row, column) == 0]) == size - 1]
                self.assertEqual(facets(matrix), sorted(wanted))

    def test_by_hand(self):
        for matrix, rows in [
                (TWISTED, [(0, 1), (3, -1)]), (((2, 3),), [(1,)]), (((-2, -4, -6),), [(-1,)]),
                (((1, 2, 3), (0, 0, 0)), [(1, 0)]), (((0, 0), (2, 3)), [(0, 1)]),
                (((1, 2), (-1, -2), (3, 6)), [(0, 0, 1)]), (FLAT, [(0, 1)]),
                (((1,), (0,), (-4,)), [(0, 0, -1)]), (((-1,), (0,)), [(-1, 0)]),
                (((1, 0, 0), (0, 1, 0), (0, 0, 1)), [(0, 0, 1), (0, 1, 0), (1, 0, 0)]),
                (SQUARE, [(0, 0, 1), (0, 1, 0), (1, -1, 0), (1, 0, -1)]),
                (((1, 1, 1, 1), (0, 1, 2, 3), (1, 2, 3, 4)), [(0, -4, 3), (0, 1, 0)]),
                (SLOPED, [(-1, 2), (5, -4)])]:
            with self.subTest(matrix):
                self.assertEqual(facets(matrix), rows)


class Cone(unittest.TestCase):
    """[30] and [32]"""

    def test_against_fractions(self):
        for matrix in POINTED:
            for side in sides_near(matrix, 5 if len(matrix) < 3 else 2):
                wanted = first_by_hand(matrix, side) is not None
                self.assertIs(is_in_cone(matrix, side), wanted, (matrix, side))

    def test_against_rows_that_hold(self):
        for matrix in SMALL:
            rows = holding(matrix, bound_for(matrix))
            rows += facets(matrix)
            for side in sides_near(matrix, 4 if len(matrix) < 3 else 1):
                wanted = all(dot(row, side) >= 0 for row in rows)
                self.assertIs(is_in_cone(matrix, side), wanted, (matrix, side))

    def test_inside_border_outside_and_beside(self):
        self.assertIs(is_in_cone(GAPPED, (2, 1)), True)
        self.assertIs(is_in_cone(GAPPED, (1, 2)), True)          # a hole of the cone
        self.assertIs(is_in_cone(GAPPED, (1, 0)), True)
        self.assertIs(is_in_cone(GAPPED, (1, 3)), True)
        self.assertIs(is_in_cone(GAPPED, (0, 0)), True)
        self.assertIs(is_in_cone(GAPPED, (1, -1)), False)
        self.assertIs(is_in_cone(GAPPED, (1, 4)), False)
        self.assertIs(is_in_cone(GAPPED, (-1, 0)), False)
        self.assertIs(is_in_cone(FLAT, (1, 2)), True)
        self.assertIs(is_in_cone(FLAT, (1, 3)), False)
        self.assertIs(is_in_cone(FLAT, (1, 1)), False)
        self.assertIs(is_in_cone(FLAT, (-1, -2)), False)
        self.assertIs(is_in_cone(FLAT, (0, 0)), True)
        self.assertIs(is_in_cone(GAPPED, (333333, 999999)), True)
        self.assertIs(is_in_cone(GAPPED, (333333, 1000000)), False)
        self.assertIs(is_in_cone(GAPPED, (-1000000, -1000000)), False)


class Faces(unittest.TestCase):
    """[34]"""

    def test_all_of_them(self):
        for matrix in SMALL:
            with self.subTest(matrix):
                columns = columns_by_hand(matrix)
                rows = facets(matrix)
                # A row for each face is the sum of facets that have 0 at it.
                sums = [tuple(sum(entries) for entries in zip((0,) * len(matrix), *some))
                        for size in range(len(rows) + 1) for some in combinations(rows, size)]
                wanted = {tuple(k for k, column in enumerate(columns) if dot(row, column) == 0)
                          for row in holding(matrix, bound_for(matrix)) + sums}
                self.assertEqual(faces(matrix),
                                 sorted(wanted, key=lambda face: (len(face), face)))

    def test_by_hand(self):
        self.assertEqual(faces(SQUARE), [
            (), (0,), (1,), (2,), (3,), (0, 1), (0, 2), (1, 3), (2, 3), (0, 1, 2, 3)])
        self.assertEqual(faces(((2, 3),)), [(), (0, 1)])
        self.assertEqual(faces(FLAT), [(), (0, 1)])
        self.assertEqual(faces(((1, 2, 1, 2), (1, 2, 3, 6))), [(), (0, 1), (2, 3), (0, 1, 2, 3)])
        self.assertEqual(faces(((1, 1, 2, 3), (1, 1, 0, 0))), [(), (0, 1), (2, 3), (0, 1, 2, 3)])
        self.assertEqual(faces(((1,),)), [(), (0,)])
        self.assertEqual(faces(((0, 1, 1), (1, 0, 1))), [(), (0,), (1,), (0, 1, 2)])

    def test_is_face(self):
        for matrix in (GAPPED, FLAT, SQUARE, ((1, 2, 1, 2), (1, 2, 3, 6)), ((2, 3),)):
            found = faces(matrix)
            width = len(matrix[0])
            for size in range(width + 1):
                for places in combinations(range(width), size):
                    self.assertIs(is_face(matrix, places), places in found)

    def test_what_is_no_face(self):
        for places in ((1, 0), (2, 0, 1), (0, 0), (0, 0, 1, 2), (2, 2)):
            self.assertIs(is_face(GAPPED, places), False)
        for places in ((3,), (-1,), (0, 1, 2, 3), (-3,), (-1, 0), (7,), (10 ** 20,), (0, 3)):
            self.assertIs(is_face(GAPPED, places), False)
        self.assertIs(is_face(SQUARE, (0, 3)), False)
        self.assertIs(is_face(SQUARE, (0, 1, 2)), False)
        self.assertIs(is_face(SQUARE, (2, 0)), False)
        self.assertIs(is_face(FLAT, (0,)), False)
        self.assertIs(is_face(FLAT, (1, 0)), False)

    def test_the_face_of_a_side(self):
        for matrix in POINTED:
            columns = columns_by_hand(matrix)
            found = faces(matrix)
            for side in sides_near(matrix, 4 if len(matrix) < 3 else 2):
                if not is_in_cone(matrix, side):
                    with self.assertRaises(NoAnswer):
                        face_of(matrix, side)
                    continue
                face = face_of(matrix, side)
                self.assertIn(face, found)
                for other in found:
                    if not other:
                        inside = not any(side)
                    else:
                        part = tuple(tuple(columns[k][row] for k in other)
                                     for row in range(len(matrix)))
                        inside = first_by_hand(part, side) is not None
                    self.assertEqual(inside, set(face) <= set(other), (matrix, side, other))

    def test_the_face_of_a_side_by_hand(self):
        self.assertEqual(face_of(GAPPED, (0, 0)), ())
        self.assertEqual(face_of(GAPPED, (5, 0)), (0,))
        self.assertEqual(face_of(GAPPED, (2, 6)), (2,))
        self.assertEqual(face_of(GAPPED, (1, 2)), (0, 1, 2))
        self.assertEqual(face_of(FLAT, (3, 6)), (0, 1))
        self.assertEqual(face_of(FLAT, (0, 0)), ())
        self.assertEqual(face_of(SQUARE, (2, 1, 0)), (0, 1))
        self.assertEqual(face_of(SQUARE, (2, 1, 1)), (0, 1, 2, 3))
        self.assertEqual(face_of(SQUARE, (1000000, 1000000, 0)), (1,))
        for side in ((1, 4), (1, -1), (-1, 0)):
            with self.assertRaises(NoAnswer):
                face_of(GAPPED, side)
        with self.assertRaises(NoAnswer):
            face_of(FLAT, (1, 1))


class Rays(unittest.TestCase):
    """[35]"""

    def test_by_hand(self):
        for matrix, places in [
                (GAPPED, [0, 2]), (TWISTED, [0, 3]), (SQUARE, [0, 1, 2, 3]), (FLAT, [0, 1]),
                (((2, 3),), [0, 1]), (((5,),), [0]), (((0, 1, 1), (1, 0, 1)), [0, 1]),
                (((1, 1, 2, 3), (1, 1, 0, 0)), [0, 1, 2, 3]),       # equal columns and multiples
                (((2, 1, 4, 1), (2, 1, 6, 0)), [2, 3]),
                (((2, 3, 4, 1), (4, 6, 6, 0)), [0, 1, 3]),          # by fractions, not integers
                (((1, 1, 1, 1, 2), (0, 1, 0, 1, 1), (0, 0, 1, 1, 1)), [0, 1, 2, 3])]:
            with self.subTest(matrix):
                self.assertEqual(rays(matrix), places)

    def test_their_words(self):
        for matrix in POINTED + [found for found in mixed(44, 120, -1, 3) if is_pointed(found)]:
            columns = columns_by_hand(matrix)
            found = faces(matrix)
            wanted = []
            for at, column in enumerate(columns):
                alike = tuple(k for k, other in enumerate(columns)
                              if rank_by_fractions([column, other]) == 1)
                if alike in found:
                    wanted.append(at)
            self.assertEqual(rays(matrix), wanted)

    def test_each_side_is_a_sum_of_rays(self):
        for matrix in POINTED:
            places = rays(matrix)
            part = tuple(tuple(row[k] for k in places) for row in matrix)
            for vector in product((0, 1, 2), repeat=len(matrix[0])):
                self.assertIs(is_in_cone(part, image_by_hand(matrix, vector)), True)


class Errors(unittest.TestCase):

    CALLS = [lambda matrix, side: facets(matrix), lambda matrix, side: faces(matrix),
             lambda matrix, side: is_face(matrix, (0,)), lambda matrix, side: rays(matrix),
             lambda matrix, side: is_face(matrix, (9, 3)),
             lambda matrix, side: is_in_cone(matrix, side),
             lambda matrix, side: face_of(matrix, side)]
    ANY = [lambda matrix: equations(matrix), lambda matrix: fixed_places(matrix),
           lambda matrix: rank_of(matrix)]

    def test_not_matrix_comes_first(self):
        for bad in NO_MATRIX:
            for call in self.CALLS:
                with self.assertRaises(NotMatrix):
                    call(bad, ())
            for call in self.ANY:
                with self.assertRaises(NotMatrix):
                    call(bad)

    def test_then_not_pointed(self):
        for matrix in RINGED:
            for call in self.CALLS:
                with self.assertRaises(NotPointed):
                    call(matrix, ())
            for call in self.ANY:
                call(matrix)

    def test_then_not_side(self):
        for side in ((), (1,), (1, 2, 3), (1000001, 0), (0, -1000001)):
            with self.assertRaises(NotSide):
                is_in_cone(GAPPED, side)
            with self.assertRaises(NotSide):
                face_of(GAPPED, side)

    def test_lists_are_new_each_time(self):
        for call in (equations, fixed_places, facets, faces, rays):
            for matrix in (FLAT, GAPPED, SQUARE):
                kept = list(call(matrix))
                found = call(matrix)
                found.append("more")
                found[0] = None
                self.assertEqual(call(matrix), kept)


class Example(unittest.TestCase):
    """[37]"""

    def test_the_gapped_matrix(self):
        matrix = ((1, 1, 1), (0, 1, 3))
        self.assertEqual(equations(matrix), [])
        self.assertEqual(fixed_places(matrix), [])
        self.assertEqual(facets(matrix), [(0, 1), (3, -1)])
        self.assertEqual(faces(matrix), [(), (0,), (2,), (0, 1, 2)])

    def test_the_flat_matrix(self):
        matrix = ((1, 2), (2, 4))
        self.assertEqual(equations(matrix), [(2, -1)])
        self.assertEqual(fixed_places(matrix), [0])
        self.assertEqual(facets(matrix), [(0, 1)])


if __name__ == "__main__":
    unittest.main()
