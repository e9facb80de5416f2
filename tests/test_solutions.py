"""Promises [160] to [162]: all solutions of one side, their number, ranges, and walks."""

import unittest
from math import comb
from random import Random

from tallyhull.errors import BadNumber, NotMatrix, NotPointed, NotSide, NotVector, TooLarge
from tallyhull.graver import graver_list, walk
from tallyhull.solutions import column_range, is_walk, solution_number, solutions
from tests.fibers import LISTED, WIDE, minus, plus, solutions_by_hand, wrong_calls
from tests.samples import (
    FLAT, GAPPED, POINTED, SLOPED, TWISTED, columns_by_hand, image_by_hand)
from tests.test_cheapest import NO_SIDES, some_sides
from tests.test_staircases import RINGS
from tests.test_testsets import PLAIN

START = [(0, ((1, 1, 1, 10), (0, 1, 2, 3)), NotMatrix), (0, RINGS, NotPointed)]
ONES = ((1, 1, 1, 1, 1, 1),)


def range_by_hand(matrix, side, k):
    entries = [vector[k] for vector in solutions_by_hand(matrix, side)]
    return (min(entries), max(entries)) if entries else None


class Lists(unittest.TestCase):
    """[160] and [161]"""

    def test_small_sides(self):
        counts = set()
        for matrix in PLAIN:
            for side in some_sides(matrix):
                wanted = list(solutions_by_hand(matrix, side))
                if len(wanted) > 2000:
                    with self.assertRaises(TooLarge):
                        solutions(matrix, side)
                    self.assertEqual(solution_number(matrix, side), len(wanted))
                    continue
                found = solutions(matrix, side)
                self.assertIsInstance(found, list)
                self.assertEqual(found, wanted)
                self.assertEqual(solution_number(matrix, side), len(wanted))
                counts.add(min(len(wanted), 5))
        self.assertEqual(counts, {0, 1, 2, 3, 4, 5})

    def test_other_matrices(self):
        for matrix in LISTED:
            for most in (1, 2):
                side = image_by_hand(matrix, (most,) * len(matrix[0]))
                if max(map(abs, side)) <= 12:
                    wanted = list(solutions_by_hand(matrix, side))
                    self.assertEqual(solutions(matrix, side), wanted)
                    self.assertEqual(solution_number(matrix, side), len(wanted))

    def test_column_by_column(self):
        source = Random(161)
        for matrix in POINTED:
            for _ in range(6):
                side = image_by_hand(matrix, tuple(source.randint(0, 4) for _ in matrix[0]))
                less = minus(side, columns_by_hand(matrix)[-1])
                if max(map(abs, side + less)) > 60:
                    continue
                without = 1 - any(side)
                if len(matrix[0]) > 1:
                    without = solution_number(tuple(row[:-1] for row in matrix), side)
                self.assertEqual(solution_number(matrix, side), without + solution_number(matrix, less))

    def test_great_numbers(self):
        self.assertEqual(solution_number(ONES, (60,)), comb(65, 5))
        self.assertEqual(solution_number(((1, 1, 1, 1), (0, 0, 1, 1)), (60, 30)), 31 * 31)
        self.assertEqual(solution_number(((-1, -1, -1),), (-60,)), comb(62, 2))
        self.assertEqual(solution_number(((1, 2, 5),), (60,)), sum(
            (60 - 5 * k) // 2 + 1 for k in range(13)))
        self.assertEqual(solution_number(((1, -9, 0), (0, 1, -9), (0, 0, 1)), (60, 60, 60)), 1)
        self.assertEqual(solutions(((1, -9, 0), (0, 1, -9), (0, 0, 1)), (60, 60, 60)), [
            (60 + 9 * 600, 600, 60)])

    def test_by_hand(self):
        self.assertEqual(solutions(TWISTED, (3, 4)), [(0, 2, 1, 0), (1, 0, 2, 0), (1, 1, 0, 1)])
        self.assertEqual(solutions(TWISTED, (0, 0)), [(0, 0, 0, 0)])
        self.assertEqual(solutions(TWISTED, (1, 4)), [])
        self.assertEqual(solutions(TWISTED, (-1, 0)), [])
        self.assertEqual(solutions(FLAT, (5, 10)), [(1, 2), (3, 1), (5, 0)])
        self.assertEqual(solutions(FLAT, (5, 9)), [])
        self.assertEqual(solutions(SLOPED, (6, 6)), [(1, 1)])
        self.assertEqual(solutions(SLOPED, (7, 8)), [])
        self.assertEqual(solutions(GAPPED, (1, 2)), [])
        self.assertEqual(solutions(((1,),), (60,)), [(60,)])

    def test_the_limits(self):
        self.assertEqual(len(solutions(((1, 1),), (60,))), 61)
        for side in [(61,), (-61,), (1000000,)]:
            for function in (solutions, solution_number):
                with self.assertRaises(TooLarge):
                    function(((1, 1),), side)
            with self.assertRaises(TooLarge):
                column_range(((1, 1),), side, 0)
        for side in [(60, 61), (61, 60), (0, -61)]:
            with self.assertRaises(TooLarge):
                solutions(GAPPED, side)
        self.assertEqual(solutions(GAPPED, (60, -60)), [])
        self.assertEqual(len(solutions(((1, 1, 1, 1),), (20,))), 1771)
        with self.assertRaises(TooLarge):
            solutions(((1, 1, 1, 1),), (21,))
        self.assertEqual(solution_number(((1, 1, 1, 1),), (21,)), 2024)
        self.assertEqual(len(solutions(((1, 1, 1, 1, 0, 0), (0, 0, 0, 0, 1, 1)), (2, 59))), 600)
        # 40 ways for the first two columns, and 50 for the last two.
        crossed = (1, 1, 0, 0), (0, 0, 1, 1)
        self.assertEqual(len(solutions(crossed, (39, 49))), 2000)
        with self.assertRaises(TooLarge):
            solutions(crossed, (40, 48))
        # And 3, 23 and 29 ways for two columns each.
        crossed = (1, 1, 0, 0, 0, 0), (0, 0, 1, 1, 0, 0), (0, 0, 0, 0, 1, 1)
        self.assertEqual(solution_number(crossed, (2, 22, 28)), 2001)
        with self.assertRaises(TooLarge):
            solutions(crossed, (2, 22, 28))


class Ranges(unittest.TestCase):
    """[160]"""

    def test_small_sides(self):
        for matrix in PLAIN:
            for side in some_sides(matrix)[::3]:
                for k in range(len(matrix[0])):
                    self.assertEqual(column_range(matrix, side, k), range_by_hand(matrix, side, k))

    def test_by_hand(self):
        self.assertEqual([column_range(TWISTED, (3, 4), k) for k in range(4)],
                         [(0, 1), (0, 2), (0, 2), (0, 1)])
        self.assertIsNone(column_range(TWISTED, (1, 4), 0))
        self.assertEqual(column_range(TWISTED, (0, 0), 3), (0, 0))
        self.assertEqual(column_range(ONES, (60,), 5), (0, 60))
        self.assertEqual(column_range(((2, 3),), (60,), 0), (0, 30))
        self.assertEqual(column_range(((2, 3),), (59,), 0), (1, 28))
        self.assertEqual(column_range(((2, 3),), (59,), 1), (1, 19))
        self.assertEqual(column_range(((4, 6),), (60,), 1), (0, 10))
        self.assertIsNone(column_range(((4, 6),), (59,), 1))
        self.assertIsNone(column_range(((4, 6),), (2,), 0))
        self.assertEqual(column_range(((1,),), (7,), 0), (7, 7))
        self.assertIsNone(column_range(((1,),), (-7,), 0))
        self.assertIsNone(column_range(((2,), (4,)), (4, 9), 0))
        self.assertIsNone(column_range(((2,), (4,)), (3, 6), 0))
        self.assertEqual(column_range(FLAT, (5, 10), 0), (1, 5))


class Walks(unittest.TestCase):
    """[162]"""

    def test_walks_of_the_graver_list(self):
        source = Random(162)
        for matrix in LISTED[::2]:
            every = graver_list(matrix)
            for _ in range(3):
                one = tuple(source.randint(0, 4) for _ in matrix[0])
                other = one
                for vector in every:
                    if min(plus(other, vector)) >= 0:
                        other = plus(other, vector)
                found = walk(matrix, one, other)
                steps = [minus(b, a) for a, b in zip(found, found[1:])]
                self.assertIs(is_walk(matrix, one, other, steps), True)
                if steps:
                    self.assertIs(is_walk(matrix, one, other, steps[1:]), False)
                    self.assertIs(is_walk(matrix, other, one, steps), False)

    def test_by_hand(self):
        x, y, z = (0, 2, 1, 0), (1, 0, 2, 0), (1, 1, 0, 1)
        for one, other, steps, wanted in [
                (x, y, [(1, -2, 1, 0)], True), (x, x, [], True), (x, y, [], False),
                (x, z, [(1, -2, 1, 0), (0, 1, -2, 1)], True), (x, z, [(1, -1, -1, 1)], True),
                (x, z, [(0, 1, -2, 1), (1, -2, 1, 0)], False),                  # below 0 on the way
                (x, y, [(1, -2, 1, 0), (0, 0, 0, 0)], True), (x, x, [(0, 0, 0, 0)], True),
                (y, x, [(1, -2, 1, 0)], False), (y, x, [(-1, 2, -1, 0)], True),
                (x, z, [(1, -2, 1, 0)], False), (x, y, [(1, -2, 2, 0)], False),
                (x, (1, 0, 3, 0), [(1, -2, 2, 0)], False), (x, y, [(1, -2, 1)], False),
                (x, y, [(1, -2, 1, 0, 0)], False), (x, y, [()], False),
                (x, x, [(1, -2, 1, 0), (-1, 2, -1, 0)], True), (x, y, [(1, -2, 1, 0)] * 2, False),
                (x, x, [(1, 0, 0, 0), (-1, 0, 0, 0)], False),
                ((0, -1, 0, 0), (0, -1, 0, 0), [], False), ((1, -1, 0, 0), (1, -1, 0, 0), [], False),
                ((1, -1, 1, 0), (0, 1, 0, 0), [(-1, 2, -1, 0)], False),
                ((0, 1, 0, 0), (1, -1, 1, 0), [(1, -2, 1, 0)], False),
                (x, (1, -1, 3, 0), [], False), ((-1, 2, 1, 0), x, [(1, -2, 1, 0)], False),
                (x, (2, -2, 3, 0), [(1, -2, 1, 0), (1, -2, 1, 0)], False),
                ((0, 0, 0, 0), (0, 0, 0, 0), [], True), ((10 ** 30, 0, 0, 0), (10 ** 30, 0, 0, 0), [], True)]:
            with self.subTest(one=one, other=other, steps=steps):
                self.assertIs(is_walk(TWISTED, one, other, steps), wanted)


class Wrong(unittest.TestCase):
    """The errors, and their order"""

    def check_errors(self, function, good, wrongs):
        for arguments, error in wrong_calls(good, wrongs):
            with self.subTest(function.__name__, arguments=arguments):
                with self.assertRaises(error):
                    function(*arguments)

    def test_errors(self):
        sides = [(1, side, NotSide) for side in NO_SIDES]
        for function in (solutions, solution_number):
            self.check_errors(function, (TWISTED, (3, 4)), START + sides + [(1, (3, 61), TooLarge)])
        columns = [(2, k, BadNumber) for k in (-1, 4, 10 ** 30)]
        self.check_errors(column_range, (TWISTED, (3, 4), 0),
                          START + sides + columns + [(1, (3, 61), TooLarge)])
        vectors = [(at, vector, NotVector) for at in (1, 2) for vector in [(), (1, 2, 3), (1,) * 5]]
        self.check_errors(is_walk, (TWISTED, (0, 2, 1, 0), (1, 0, 2, 0), [(1, -2, 1, 0)]),
                          START + vectors)
        self.check_errors(is_walk, (TWISTED, (0, 2, 1, 0), (1, -1, 2, 0), [()]), START + vectors)

    def test_a_great_graver_list_does_not_matter(self):
        self.assertEqual(solution_number(WIDE, (9,)), len(solutions_by_hand(WIDE, (9,))))
        self.assertEqual(column_range(WIDE, (60,), 5), (0, 15))

    def test_fresh_lists(self):
        once = solutions(TWISTED, (3, 4))
        once.clear()
        self.assertEqual(len(solutions(TWISTED, (3, 4))), 3)
        steps = [(1, -2, 1, 0)]
        is_walk(TWISTED, (0, 2, 1, 0), (1, 0, 2, 0), steps)
        self.assertEqual(steps, [(1, -2, 1, 0)])


if __name__ == "__main__":
    unittest.main()
