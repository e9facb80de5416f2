"""Promises [172] to [175], and of [176] what it says of matrices."""

import unittest
from itertools import permutations, product
from random import Random

from tallyhull.alikes import (
    change_between, is_change, least_columns, least_form, reach_difference, reach_same, row_form)
from tallyhull.errors import BadNumber, NotMatrix, NotPointed
from tallyhull.hermite import is_stairs
from tallyhull.matrices import is_matrix, is_pointed
from tests.fibers import check_errors, solutions_by_hand
from tests.samples import (
    FLAT, GAPPED, NO_MATRIX, POINTED, RINGED, SLOPED, TWISTED, columns_by_hand, determinant, dot,
    image_by_hand, mixed)

SAME = ((1, 1, 1), (0, 1, 2)), ((2, 1, 0), (1, 1, 1))       # the matrices of [176]
SHEAR = ((1, 2, 0), (0, 1, 0), (3, -1, -1))                 # determinant -1
ALL = POINTED + RINGED + mixed(174, 40, -3, 3) + mixed(175, 20, -9, 9)
NARROW = ((9, -9, 8, -8), (8, -7, 7, -6))                   # its columns lie close to a line


def from_columns(columns):
    return tuple(zip(*columns))


def times(change, matrix):
    """The product of two matrices, as [174] tells it."""
    return tuple(tuple(sum(row[j] * matrix[j][k] for j in range(len(matrix)))
                       for k in range(len(matrix[0]))) for row in change)


def in_order(matrix, order):
    return tuple(tuple(row[k] for k in order) for row in matrix)


def some_change(source, height):
    """A square matrix with the determinant 1 or -1."""
    change = [[int(i == j) for j in range(height)] for i in range(height)]
    for _ in range(3):
        i, j = source.randrange(height), source.randrange(height)
        if i != j:
            many = source.randint(-2, 2)
            change[i] = [a + many * b for a, b in zip(change[i], change[j])]
    source.shuffle(change)
    if source.random() < 0.5:
        change[0] = [-entry for entry in change[0]]
    return tuple(map(tuple, change))


def is_reached(matrix, side):
    """Whether a side has a solution, by looking at all there are."""
    return bool(solutions_by_hand(matrix, side))


def least_by_hand(matrix):
    """[173], as it stands there."""
    every = sorted(set(columns_by_hand(matrix)))
    return [column for column in every if len(every) == 1 or not is_reached(
        from_columns([other for other in every if other != column]), column)]


SMALL = [matrix for matrix in POINTED + mixed(172, 120, -1, 3) + mixed(173, 60, -3, 4)
         if is_pointed(matrix) and max(abs(entry) for row in matrix for entry in row) < 6]


class Reach(unittest.TestCase):
    """[172] and [173]"""

    def test_least_columns_by_hand(self):
        fewer = 0
        for matrix in SMALL:
            found = least_columns(matrix)
            self.assertIsInstance(found, list)
            self.assertEqual(found, least_by_hand(matrix), matrix)
            fewer += len(found) < len(set(columns_by_hand(matrix)))
        self.assertGreater(fewer, 20)

    def test_least_columns_told(self):
        for matrix, told in [
                (((1,),), [(1,)]), (((2, 4, 7),), [(2,), (7,)]), (((2, 2, 2),), [(2,)]),
                (((9, 8, 7, 6, 5, 4),), [(4,), (5,), (6,), (7,)]), (((-3, -6, -7, -9),), [(-7,), (-3,)]),
                (((4, 6, 9, 5),), [(4,), (5,), (6,)]), (((6, 9, 8, 7),), [(6,), (7,), (8,), (9,)]),
                (TWISTED, [(1, 0), (1, 1), (1, 2), (1, 3)]), (FLAT, [(1, 2)]),
                (((2, 0, 2, 1, 4), (0, 2, 2, 1, 0)), [(0, 2), (1, 1), (2, 0)]),
                (((1, 1, 2, 2), (0, 3, 3, 4)), [(1, 0), (1, 3), (2, 4)]), (SLOPED, [(2, 1), (4, 5)]),
                (((1, 0, 0, 1, 1), (0, 1, 0, 1, 1), (0, 0, 1, 1, 1)),
                 [(0, 0, 1), (0, 1, 0), (1, 0, 0)])]:
            with self.subTest(matrix=matrix):
                self.assertEqual(least_columns(matrix), told)

    def test_columns_that_many_others_make(self):
        # 9 = 72 times 9 less 8 times 81 and so on: some columns are taken very often.
        for first, second in [((9, 8), (-8, -7)), ((7, 9), (-6, -8)), ((9, -7), (-8, 6))]:
            for one, other in product(range(1, 9), repeat=2):
                column = tuple(one * a + other * b for a, b in zip(first, second))
                if max(map(abs, column)) < 10 and any(column):
                    matrix = from_columns([first, second, column])
                    self.assertTrue(is_pointed(matrix))
                    self.assertEqual(least_columns(matrix), sorted([first, second]))
                    self.assertIs(reach_same(matrix, from_columns([first, second])), True)
        # (-1, 0) is 7 times the first one and 8 times the second one, and (0, 1) is 8 and 9 times.
        self.assertIs(reach_same(((9, -8), (8, -7)), ((9, -8, -1, 0), (8, -7, 0, 1))), True)
        self.assertEqual(reach_difference(((9, -8), (8, -7)), ((9, -1, 0), (8, 0, 1))), (-8, -7))
        self.assertEqual(reach_difference(((9, -8), (9, -7)), ((9, -8, -1), (9, -7, 0))), (-1, 0))

    def test_long_sums(self):
        # x (9, 1, 0) + y (-8, 0, 1) + z (0, -9, -9): only these columns, and these sums of them.
        columns = [(9, 1, 0), (-8, 0, 1), (-1, -1, 9), (9, -9, -9)]
        self.assertTrue(is_pointed(from_columns(columns)))
        for vector in product(range(7), repeat=4):
            column = tuple(sum(n * a[i] for n, a in zip(vector, columns)) for i in range(3))
            if max(map(abs, column)) < 10 and sum(vector) > 1:
                matrix = from_columns(columns + [column])
                self.assertEqual(least_columns(matrix), sorted(columns), vector)

    def test_reach_by_hand(self):
        told = {True: 0, False: 0}
        source = Random(172)
        for one in SMALL:
            others = source.sample([other for other in SMALL if len(other) == len(one)], 6)
            smaller = from_columns(least_columns(one))
            for other in others + [smaller, one]:
                here = [column for column in columns_by_hand(one) if not is_reached(other, column)]
                there = [column for column in columns_by_hand(other) if not is_reached(one, column)]
                same = reach_same(one, other)
                self.assertIs(same, not here and not there)
                self.assertEqual(same, least_columns(one) == least_columns(other))
                column = reach_difference(one, other)
                self.assertEqual(column is None, same)
                if not same:
                    self.assertIn(column, here or there)
                told[same] += 1
        self.assertGreater(min(told.values()), 50)

    def test_one_column_less_or_more(self):
        for matrix, other, told in [
                (((2, 3),), ((2, 3, 5),), None), (((2, 3),), ((3, 2),), None), (((2, 3),), ((2, 3, 1),), (1,)),
                (((2, 3, 1),), ((2, 3),), (1,)), (((2, 3),), ((2, 2),), (3,)), (((2, 4),), ((2,),), None),
                (((2,),), ((3,),), (2,)), (((4,),), ((2,),), (2,)), (((2,),), ((-2,),), (2,)),
                (TWISTED, ((1, 1, 1), (0, 1, 3)), (1, 2)), (GAPPED, TWISTED, (1, 2)),
                (TWISTED, ((3, 1, 1, 1, 1), (5, 0, 1, 2, 3)), None), (FLAT, ((1,), (2,)), None),
                (((1, 1), (0, 0)), ((1, 1), (0, 1)), (1, 1)), (((0, 1), (1, 0)), ((1, 0, 1), (0, 1, 1)), None)]:
            with self.subTest(matrix=matrix, other=other):
                self.assertEqual(reach_difference(matrix, other), told)
                self.assertIs(reach_same(matrix, other), told is None)

    def test_no_fewer_columns_reach_the_same(self):
        for matrix in SMALL:
            least = least_columns(matrix)
            self.assertIs(reach_same(matrix, from_columns(least)), True)
            for k in range(len(least)):
                if len(least) > 1:
                    fewer = from_columns(least[:k] + least[k + 1:])
                    self.assertIs(reach_same(matrix, fewer), False)
                    self.assertIn(reach_difference(fewer, matrix), columns_by_hand(matrix))
                    self.assertEqual(reach_difference(fewer, from_columns(least)), least[k])


class Forms(unittest.TestCase):
    """[175]"""

    def test_row_forms(self):
        source = Random(175)
        for matrix in ALL:
            form = row_form(matrix)
            self.assertEqual((len(form), {len(row) for row in form}), (len(matrix), {len(matrix[0])}))
            rows = [row for row in form if any(row)]
            self.assertEqual(list(form), rows + [(0,) * len(matrix[0])] * (len(form) - len(rows)))
            self.assertTrue(not rows or is_stairs(rows))
            for _ in range(3):
                change = some_change(source, len(matrix))
                other = times(change, matrix)
                if is_matrix(other):
                    self.assertEqual(row_form(other), form)
            if is_matrix(form):
                self.assertIsNotNone(change_between(matrix, form))

    def test_row_forms_told(self):
        for matrix, form in [
                (((0,),), ((0,),)), (((-3, 6),), ((3, -6),)), (FLAT, ((1, 2), (0, 0))),
                (((0, 0), (0, 0)), ((0, 0), (0, 0))), (((0, 0), (-4, 2)), ((4, -2), (0, 0))),
                (SLOPED, ((1, 5), (0, 6))), (((5, 7), (3, 4)), ((1, 0), (0, 1))),
                (((9, -9, 1), (0, 9, 2), (1, 1, 9)), ((1, 1, 9), (0, 9, 2), (0, 0, 76))),
                (((2, 1), (4, 5)), ((2, 1), (0, 3))), (((6, 1), (9, 0), (0, 0)), ((3, -1 + 3), (0, 3), (0, 0)))]:
            with self.subTest(matrix=matrix):
                self.assertEqual(row_form(matrix), form)

    def test_least_forms(self):
        for matrix in ALL:
            if len(matrix[0]) < 5:
                forms = [row_form(in_order(matrix, order))
                         for order in permutations(range(len(matrix[0])))]
                self.assertEqual(least_form(matrix), min(forms))
        self.assertEqual(least_form(((2, 3),)), ((2, 3),))
        self.assertEqual(least_form(((3, -2),)), ((2, -3),))
        self.assertEqual(least_form(SAME[0]), least_form(SAME[1]))
        self.assertEqual(least_form(((0, 1), (9, 0))), ((1, 0), (0, 9)))
        wide = ((1, 2, 3, 4, 5, 6), (6, 5, 4, 3, 2, 1), (0, 0, 1, 0, 0, 2))
        self.assertEqual(least_form(wide), min(row_form(in_order(wide, order))
                                               for order in permutations(range(6))))

    def test_greater_entries(self):
        self.assertEqual(least_form(((9, 8), (1, 9))), ((1, 9), (0, 73)))
        self.assertEqual(least_form(((8, 9), (9, 1))), ((1, 9), (0, 73)))
        self.assertEqual(row_form(((9, 8), (1, 9))), ((1, 9), (0, 73)))
        self.assertGreater(max(max(row) for row in row_form(((9, 8, 7), (1, 9, -9), (8, 8, 3)))), 9)


class Changes(unittest.TestCase):
    """[174]"""

    def check_change(self, one, other):
        order, change = change_between(one, other)
        self.assertIsInstance(order, tuple)
        self.assertIsInstance(change, tuple)
        self.assertEqual(sorted(order), list(range(len(one[0]))))
        self.assertIn(determinant(change), (1, -1))
        self.assertEqual(times(change, in_order(one, order)), other)
        self.assertIs(is_change(one, other, order, change), True)

    def test_changes_found(self):
        source = Random(174)
        some = 0
        for matrix in ALL:
            self.check_change(matrix, matrix)
            for _ in range(3):
                order = list(range(len(matrix[0])))
                source.shuffle(order)
                change = some_change(source, len(matrix))
                other = times(change, in_order(matrix, order))
                if is_matrix(other):
                    some += 1
                    self.assertIs(is_change(matrix, other, tuple(order), change), True)
                    self.check_change(matrix, other)
                    self.check_change(other, matrix)
                    self.assertEqual(least_form(matrix), least_form(other))
        self.assertGreater(some, 100)

    def test_pairs_with_and_without_one(self):
        told = {True: 0, False: 0}
        few = [((a, b), (c, d)) for a, b, c, d in product((-1, 0, 1, 2), repeat=4)][::5]
        for one, other in product(few, few):
            found = change_between(one, other)
            self.assertEqual(found is None, least_form(one) != least_form(other))
            told[found is None] += 1
        self.assertGreater(min(told.values()), 100)
        # With all changes of small entries there is none for these.
        squares = [(row[:2], row[2:]) for row in product((-2, -1, 0, 1, 2), repeat=4)]
        changes = [square for square in squares if determinant(square) in (1, -1)]
        for one, other in [(((1, 1), (0, 2)), ((1, 0), (0, 2))), (((1, 0), (0, 2)), ((1, 0), (0, 1))),
                           (((1, 2), (0, 4)), ((1, 0), (0, 4))), (((2, 0), (0, 2)), ((1, 0), (0, 4)))]:
            self.assertIsNone(change_between(one, other))
            self.assertFalse(any(times(change, in_order(one, order)) == other
                                 for change in changes for order in ((0, 1), (1, 0))))

    def test_solutions_go_over(self):
        source = Random(1740)
        for matrix in SMALL[:40]:
            order = list(range(len(matrix[0])))
            source.shuffle(order)
            change = some_change(source, len(matrix))
            other = times(change, in_order(matrix, order))
            if is_matrix(other):
                order, change = change_between(matrix, other)
                side = image_by_hand(matrix, tuple(source.randint(0, 2) for _ in order))
                turned = tuple(dot(row, side) for row in change)
                self.assertEqual(sorted(tuple(x[k] for k in order)
                                        for x in solutions_by_hand(matrix, side)),
                                 sorted(solutions_by_hand(other, turned)))

    def test_what_is_no_change(self):
        one, other = SAME
        order, change = change_between(one, other)
        for wrong in [(), (0,), (0, 1), (0, 1, 2, 3), (0, 0, 1), (1, 2, 3), (-1, 0, 1), (0, 1, 10 ** 30),
                      (2, 0, 1)]:
            with self.subTest(order=wrong):
                self.assertIs(is_change(one, other, wrong, change), False)
        (a, b), (c, d) = change
        for wrong in [(), ((a, b),), ((a, b), (c, d), (0, 0)), ((a,), (c,)), ((a, b), (c,)), ((a, b), ()),
                      ((a, b, 0), (c, d, 0)), ((c, d), (a, b)), ((a + 1, b), (c, d)), ((-a, -b), (c, d)),
                      ((10 ** 30, b), (c, d)), ((1, 0), (0, 1)), ((0, 0), (0, 0))]:
            with self.subTest(change=wrong):
                self.assertIs(is_change(one, other, order, wrong), False)
        # It makes the second matrix, but its determinant is 2, or 0.
        self.assertIs(is_change(((1, 2),), ((2, 4),), (0, 1), ((2,),)), False)
        self.assertIs(is_change(FLAT, FLAT, (0, 1), ((1, 0), (2, 0))), False)
        self.assertIs(is_change(FLAT, FLAT, (0, 1), ((1, 0), (0, 1))), True)
        self.assertIs(is_change(FLAT, FLAT, (0, 1), ((-1, 1), (0, 1))), True)
        self.assertIs(is_change(FLAT, FLAT, (0, 1), ((10 ** 30 * 2 + 1, -10 ** 30), (2, 0))), False)
        self.assertIs(is_change(FLAT, FLAT, (0, 1), ((2 * 10 ** 30 + 1, -10 ** 30),
                                                     (4 * 10 ** 30, 1 - 2 * 10 ** 30))), True)

    def test_turned_signs_and_equal_columns(self):
        self.check_change(((1, 1, 2),), ((-1, -2, -1),))
        self.check_change(((1, 1, 2), (0, 0, 0)), ((0, 0, 0), (2, 1, 1)))
        self.assertIsNone(change_between(((1, 1, 2),), ((1, 2, 2),)))
        self.assertIsNone(change_between(((1, 1, 2),), ((1, 1, -2),)))
        self.assertIsNone(change_between(((1, 1, 2), (0, 0, 0)), ((1, 1, 2), (0, 1, 0))))


class Example(unittest.TestCase):
    """[176], what it says of matrices"""

    def test_the_example(self):
        self.assertIs(reach_same(((2, 3),), ((2, 3, 5),)), True)
        self.assertIsNone(reach_difference(((2, 3),), ((2, 3, 5),)))
        self.assertEqual(least_columns(((2, 4, 7),)), [(2,), (7,)])
        self.assertIsNotNone(change_between(*SAME))
        self.assertEqual(least_form(SAME[0]), least_form(SAME[1]))


class Wrong(unittest.TestCase):
    """The errors, and their order"""

    def test_errors_of_one_matrix(self):
        for matrix in NO_MATRIX:
            for function in (least_columns, row_form, least_form):
                with self.assertRaises(NotMatrix):
                    function(matrix)
        for matrix in RINGED:
            with self.assertRaises(NotPointed):
                least_columns(matrix)
            self.assertEqual(least_form(matrix), least_form(row_form(matrix))
                             if is_matrix(row_form(matrix)) else least_form(matrix))

    def test_errors_of_two_matrices(self):
        bad = [(0, ((1, 10), (0, 1)), NotMatrix), (0, ((10,),), NotMatrix),
               (1, ((1, 10), (0, 1)), NotMatrix), (1, (), NotMatrix)]
        other = [(1, ((2, 3),), BadNumber), (1, RINGED[1], BadNumber)]
        rings = [(0, RINGED[8], NotPointed), (1, RINGED[8], NotPointed)]
        for function in (reach_same, reach_difference):
            check_errors(self, function, (TWISTED, GAPPED), bad + other + rings)
            with self.assertRaises(BadNumber):
                function(RINGED[1], TWISTED)
        other = other + [(1, ((1, 2), (0, 1)), BadNumber)]
        check_errors(self, change_between, (TWISTED, TWISTED), bad + other)
        good = TWISTED, TWISTED, (0, 1, 2, 3), ((1, 0), (0, 1))
        check_errors(self, is_change, good, bad + other)
        with self.assertRaises(BadNumber):
            is_change(TWISTED, GAPPED, (), ())
        # They take matrices that are not pointed.
        ring = RINGED[8]
        self.assertIsNotNone(change_between(ring, ring))
        self.assertIs(is_change(ring, ring, (0, 1, 2), ((1, 0), (0, 1))), True)

    def test_fresh_lists(self):
        once = least_columns(TWISTED)
        once.clear()
        self.assertEqual(len(least_columns(TWISTED)), 4)


if __name__ == "__main__":
    unittest.main()
