"""Promises [250] to [256]: how many sides are solved, level by level."""

import unittest
from functools import lru_cache
from itertools import product
from random import Random

from tallyhull.alikes import least_columns
from tallyhull.coins import gap_count, gaps, greatest_gap
from tallyhull.errors import BadNumber, NotMatrix, NotPointed, TooLarge
from tallyhull.hilbert import is_full
from tallyhull.holeboxes import all_holes, endless_hole
from tallyhull.holes import is_normal, low_sides
from tallyhull.matrices import is_side, pointed_answer
from tallyhull.reached import (
    hole_numbers, hole_top, inner_numbers, inner_top, last_level, solved_numbers, solved_top, strides)
from tests.fibers import LIMIT, LISTED, OVER, WIDE, check_errors, plus
from tests.samples import FLAT, GAPPED, RINGED, SLOPED, TWISTED, columns_by_hand, dot
from tests.test_holes import PLAIN, SOLID, TOO_MANY
from tests.test_staircases import RINGS

FEW = PLAIN + SOLID[:3]
NUMBERS = (solved_numbers, inner_numbers, hole_numbers)
TOPS = (solved_top, inner_top, hole_top)
# Three pairs of coins, 3, 4 and 5 the lesser ones: 60 low sides. Two pairs: 64. And one with 61.
SIXTY = ((3, 4, 0, 0, 0, 0), (0, 0, 4, 5, 0, 0), (0, 0, 0, 0, 5, 6)), (1, 1, 1)
MORE = ((8, 9, 0, 0), (0, 0, 8, 9)), (1, 1)
ONE_MORE = ((-1, 2, 3, 2), (9, 5, 5, 5), (3, 1, 5, 7)), (1, 1, 0)
# The longest list of the matrix with one column more has 399 vectors, and 403.
LONG = ((3, 3, -1, 2, 6), (1, 0, 3, 2, -1)), (4, 7)
TOO_LONG = ((1, 9, -1, 2, 0), (0, 2, 6, 4, 7)), (3, 1)
# The cost of zeros has 40 corners, and 41.
CORNERS = ((-1, 0, 3, -1, 4), (5, 3, 5, 4, 4)), (3, 2)
MANY_CORNERS = ((4, 2, 8, 2, 4), (1, 8, 3, 6, 2)), (1, 1)


def weight_for(matrix):
    return pointed_answer(matrix)[1]


@lru_cache(maxsize=None)
def solved_by_hand(matrix, weight, most):
    """The sides that sums of columns reach, with levels of at most so much."""
    found = {(0,) * len(matrix)}
    layer = list(found)
    while layer:
        grown = {plus(side, column) for side in layer for column in columns_by_hand(matrix)}
        layer = [side for side in grown - found if dot(weight, side) <= most]
        found |= set(layer)
    return found


@lru_cache(maxsize=None)
def inner_by_hand(matrix, weight, most):
    """The full sides with levels of at most so much: they are fractions of columns as great."""
    ranges = []
    for i in range(len(matrix)):
        ends = [most * column[i] // dot(weight, column) for column in columns_by_hand(matrix)]
        ends += [-(-most * column[i] // dot(weight, column)) for column in columns_by_hand(matrix)]
        ranges.append(range(min(ends + [0]), max(ends + [0]) + 1))
    return {side for side in product(*ranges) if dot(weight, side) <= most
            and is_side(matrix, side) and is_full(matrix, side)}


def levels_of(weight, sides, most):
    found = [0] * (most + 1)
    for side in sides:
        found[dot(weight, side)] += 1
    return found


def multiplied(one, other):
    found = [0] * (len(one) + len(other))
    for a, x in enumerate(one):
        for b, y in enumerate(other):
            found[a + b] += x * y
    return found


def spread_out(numbers, lengths):
    """The numbers of a series times the product of 1 - t^s for all strides."""
    found = list(numbers)
    for length in lengths:
        found = [entry - (found[k - length] if k >= length else 0) for k, entry in enumerate(found)]
    return found


def padded(top, size):
    return (top + [0] * size)[:size]


class Strides(unittest.TestCase):
    """[250]"""

    def test_strides(self):
        for matrix in FEW + LISTED:
            weight = weight_for(matrix)
            told = [dot(weight, column) for column in columns_by_hand(matrix)]
            if max(told) <= 60:
                found = strides(matrix, weight)
                self.assertIsInstance(found, list)
                self.assertEqual(found, told)
            else:
                with self.assertRaises(BadNumber):
                    strides(matrix, weight)
        self.assertEqual(strides(TWISTED, (1, 0)), [1, 1, 1, 1])
        self.assertEqual(strides(TWISTED, (1, 1)), [1, 2, 3, 4])
        self.assertEqual(strides(((5, -2, 1), (-1, 1, 0)), (1, 3)), [2, 1, 1])

    def test_what_is_no_weight(self):
        for function in (strides, last_level) + TOPS:
            for weight in [(), (1,), (1, 0, 0), (0, 0), (0, 1), (-1, 0), (1, -1), (10 ** 30, 0), (0, 10 ** 30),
                           (61, 0), (58, 1)]:
                with self.subTest(function.__name__, weight=weight):
                    with self.assertRaises(BadNumber):
                        function(TWISTED, weight)
            function(TWISTED, (57, 1))
            function(TWISTED, (60, 0))
            function(((1, 1), (9, -9)), (51, 1))
        self.assertEqual(strides(TWISTED, (57, 1)), [57, 58, 59, 60])
        for function in NUMBERS:
            with self.assertRaises(BadNumber):
                function(TWISTED, (58, 1), 5)
            with self.assertRaises(BadNumber):
                function(TWISTED, (0, 1), 5)


class Numbers(unittest.TestCase):
    """[250] to [253]"""

    def check_levels(self, matrix, weight, most):
        solved = levels_of(weight, solved_by_hand(matrix, weight, most), most)
        inner = levels_of(weight, inner_by_hand(matrix, weight, most), most)
        holes = [a - b for a, b in zip(inner, solved)]
        for function, told in zip(NUMBERS, (solved, inner, holes)):
            found = function(matrix, weight, most)
            self.assertIsInstance(found, list)
            self.assertEqual(found, told, (function.__name__, matrix, weight))
        return holes

    def test_against_sides_that_are_listed(self):
        holed = 0
        for matrix in FEW:
            weight = weight_for(matrix)
            most = {1: 60, 2: 16, 3: 8}[len(matrix)] * (1 if max(strides(matrix, weight)) < 20 else 2)
            holes = self.check_levels(matrix, weight, most)
            holed += any(holes)
        self.assertGreater(holed, 8)

    def test_other_weights(self):
        for matrix, weights in [
                (GAPPED, [(1, 0), (1, 1), (2, 0), (4, -1), (3, 2)]), (TWISTED, [(1, 0), (4, -1), (1, 3)]),
                (((2, 3),), [(1,), (2,), (5,)]), (((-3, -5),), [(-1,), (-3,)]), (FLAT, [(1, 0), (-1, 1), (3, -1)]),
                (SLOPED, [(1, 0), (0, 1), (2, -1)]), (((1, 0, 1), (0, 1, 1)), [(1, 1), (2, 1), (1, 5)])]:
            for weight in weights:
                self.check_levels(matrix, weight, 12)

    def test_equal_columns_and_sums(self):
        for matrix in [((1, 1),), ((2, 2, 3, 3),), ((2, 3, 5),), ((1, 1, 1, 1), (0, 0, 3, 3)), ((1, 1, 2), (1, 1, 2)),
                       ((1, 1, 1, 1, 2), (0, 1, 3, 3, 6)), ((4, 6, 4, 6, 9),)]:
            self.check_levels(matrix, weight_for(matrix), 14)

    def test_tops(self):
        for matrix in FEW:
            weight = weight_for(matrix)
            lengths = strides(matrix, weight)
            for top_of, numbers_of in zip(TOPS, NUMBERS):
                top = top_of(matrix, weight)
                self.assertIsInstance(top, list)
                self.assertTrue(not top or top[-1] != 0)
                # The numbers of all levels up to 300 times the product are the top, and 0 behind it.
                self.assertLess(len(top), 290)
                self.assertEqual(spread_out(numbers_of(matrix, weight, 300), lengths), padded(top, 301))
            solved, inner, holes = [padded(top_of(matrix, weight), 301) for top_of in TOPS]
            self.assertEqual(holes, [a - b for a, b in zip(inner, solved)])

    def test_tops_told(self):
        for matrix, weight, solved, inner, holes in [
                (((1,),), (1,), [1], [1], []), (((3,),), (2,), [1], [1], []), (((1, 1),), (1,), [1, -1], [1, -1], []),
                (((2, 3),), (1,), [1, 0, 0, 0, 0, 0, -1], [1, 1, 0, -1, -1], [0, 1, 0, -1, -1, 0, 1]),
                (TWISTED, (1, 0), [1, 0, -3, 2], [1, 0, -3, 2], []), (FLAT, (1, 0), [1, 0, -1], [1, 0, -1], []),
                (SLOPED, (1, 0), [1], [1], []), (GAPPED, (1, 0), [1, 0, 0, -1], [1, 1, -2], [0, 1, -2, 1])]:
            with self.subTest(matrix=matrix, weight=weight):
                self.assertEqual(solved_top(matrix, weight), solved)
                self.assertEqual(inner_top(matrix, weight), inner)
                self.assertEqual(hole_top(matrix, weight), holes)

    def test_matrices_with_great_lists(self):
        source = Random(253)
        done = 0
        for matrix in LISTED:
            weight = weight_for(matrix)
            if max(dot(weight, column) for column in columns_by_hand(matrix)) > 60:
                continue
            most = source.randint(5, 9)
            solved = levels_of(weight, solved_by_hand(matrix, weight, most), most)
            self.assertEqual(solved_numbers(matrix, weight, most), solved)
            inner = levels_of(weight, inner_by_hand(matrix, weight, most), most)
            self.assertEqual(inner_numbers(matrix, weight, most), inner)
            self.assertEqual(hole_numbers(matrix, weight, most), [a - b for a, b in zip(inner, solved)])
            done += 1
        self.assertGreater(done, 60)

    def test_n(self):
        for function, first in zip(NUMBERS, (1, 1, 0)):
            self.assertEqual(function(GAPPED, (1, 0), 0), [first])
            self.assertEqual(len(function(GAPPED, (1, 0), 300)), 301)
            for n in (-1, 301, 10 ** 30, -10 ** 30):
                with self.assertRaises(BadNumber):
                    function(GAPPED, (1, 0), n)


class Levels(unittest.TestCase):
    """[254] and [255]"""

    def test_last_levels(self):
        kinds = set()
        for matrix in FEW + LISTED[::2]:
            weight = weight_for(matrix)
            if max(dot(weight, column) for column in columns_by_hand(matrix)) > 60:
                continue
            last = last_level(matrix, weight)
            if endless_hole(matrix) is not None:
                self.assertIsNone(last)
            else:
                holes = all_holes(matrix)
                self.assertEqual(last, max([dot(weight, hole) for hole in holes], default=-1))
                if last < 300:
                    numbers = hole_numbers(matrix, weight, 300)
                    self.assertEqual(numbers, levels_of(weight, holes, 300))
                    self.assertEqual(sum(numbers), len(holes))
            self.assertEqual(last == -1, is_normal(matrix))
            kinds.add(last if last in (None, -1) else 0)
        self.assertEqual(kinds, {None, -1, 0})
        self.assertEqual(last_level(((3, 5),), (1,)), 7)
        self.assertEqual(last_level(((3, 5),), (4,)), 28)
        self.assertEqual(last_level(((-3, -5),), (-1,)), 7)
        self.assertIsNone(last_level(GAPPED, (1, 0)))
        self.assertEqual(last_level(TWISTED, (1, 0)), -1)
        self.assertEqual(last_level(((1, 1, 1, 1), (0, 1, 3, 4)), (1, 0)), 1)

    def test_the_sum_of_two_weights(self):
        # The top of finitely many holes, divided by the product, is a polynomial.
        for matrix in [((3, 5),), ((1, 1, 1, 1), (0, 1, 3, 4)), ((4, 9, 7),)]:
            holes = all_holes(matrix)
            for weight in [weight_for(matrix), tuple(2 * entry for entry in weight_for(matrix))]:
                found = [1]
                for length in strides(matrix, weight):
                    found = multiplied(found, [1] + [0] * (length - 1) + [-1])
                numbers = levels_of(weight, holes, last_level(matrix, weight))
                wanted = multiplied(numbers, found)
                self.assertEqual(padded(hole_top(matrix, weight), len(wanted)), wanted)

    def test_columns_left_out(self):
        for matrix in [((2, 3, 5),), ((1, 1, 2), (0, 3, 3)), ((4, 6, 9, 8),), ((1, 1, 1, 2), (0, 1, 3, 4))]:
            weight = weight_for(matrix)
            fewer = tuple(zip(*least_columns(matrix)))
            self.assertLess(len(fewer[0]), len(matrix[0]))
            for function in NUMBERS:
                self.assertEqual(function(matrix, weight, 60), function(fewer, weight, 60))

    def test_coins(self):
        # [255]: the holes of one row are its gaps.
        for coins in [(2, 3), (3, 5), (4, 6), (4, 6, 9), (5, 7, 9), (7, 8, 9), (1, 5), (6, 9), (8, 9)]:
            told = gaps(coins)
            numbers = hole_numbers((coins,), (1,), 100)
            self.assertEqual(numbers, [int(k in told) for k in range(101)])
            self.assertEqual(sum(numbers), gap_count(coins))
            self.assertEqual(last_level((coins,), (1,)), -1 if greatest_gap(coins) is None else greatest_gap(coins))
            self.assertEqual(max(solved_numbers((coins,), (1,), 100)), 1)


class Limits(unittest.TestCase):

    def check_large(self, functions, matrix, weight, is_large):
        for function in functions:
            with self.subTest(function.__name__, matrix=matrix):
                more = (9,) if function in NUMBERS else ()
                if is_large:
                    with self.assertRaises(TooLarge):
                        function(matrix, weight, *more)
                else:
                    function(matrix, weight, *more)

    def test_solved_sides(self):
        functions = (solved_top, solved_numbers)
        self.check_large(functions, LIMIT, (1,), False)
        self.check_large(functions, OVER, (0, 1), True)
        self.check_large(functions, WIDE, (1,), True)
        self.check_large(functions, *CORNERS, False)
        self.check_large(functions, *MANY_CORNERS, True)
        # What counts solved sides does not want low sides.
        self.check_large(functions, *MORE, False)
        self.assertEqual(strides(*MANY_CORNERS), [5, 10, 11, 8, 6])

    def test_inner_sides_and_holes(self):
        functions = (inner_top, hole_top, inner_numbers, hole_numbers)
        self.assertEqual([len(low_sides(told[0])) for told in (SIXTY, MORE, ONE_MORE)], [60, 64, 61])
        self.check_large(functions[:2], *SIXTY, False)
        self.check_large(functions, *MORE, True)
        self.check_large(functions, *ONE_MORE, True)
        self.check_large(functions[:2], *LONG, False)
        self.check_large(functions, *TOO_LONG, True)
        self.check_large(functions, WIDE, (1,), True)
        self.check_large(functions, LIMIT, (1,), False)
        self.check_large(functions, TOO_MANY, (0, 0, 1), True)
        with self.assertRaises(TooLarge):
            last_level(TOO_MANY, (0, 0, 1))

    def test_a_normal_matrix_with_a_long_list(self):
        # Its Graver list has 268 vectors, but there is one low side alone, and no difference.
        matrix = ((1, 9, 8, 7, 6, 5),)
        self.check_large((solved_top, solved_numbers), matrix, (1,), True)
        self.assertEqual(inner_numbers(matrix, (1,), 20), [1] * 21)
        self.assertEqual(hole_top(matrix, (1,)), [])
        self.assertEqual(last_level(matrix, (1,)), -1)

    def test_sixty_low_sides(self):
        # A side has a solution if each of its three entries is payable.
        matrix, weight = SIXTY
        solved = solved_by_hand(matrix, weight, 14)
        self.assertEqual(solved_numbers(matrix, weight, 14), levels_of(weight, solved, 14))
        self.assertEqual(inner_numbers(matrix, weight, 14), [(k + 1) * (k + 2) // 2 for k in range(15)])


class Example(unittest.TestCase):
    """[256]"""

    def test_the_example(self):
        matrix, weight = ((1, 1, 1), (0, 1, 3)), (1, 0)
        self.assertEqual(strides(matrix, weight), [1, 1, 1])
        self.assertEqual(solved_top(matrix, weight), [1, 0, 0, -1])
        self.assertEqual(solved_numbers(matrix, weight, 4), [1, 3, 6, 9, 12])
        self.assertEqual(inner_top(matrix, weight), [1, 1, -2])
        self.assertEqual(inner_numbers(matrix, weight, 4), [1, 4, 7, 10, 13])
        self.assertEqual(hole_top(matrix, weight), [0, 1, -2, 1])
        self.assertEqual(hole_numbers(matrix, weight, 9), [0] + [1] * 9)


class Wrong(unittest.TestCase):
    """The errors, and their order"""

    def test_errors(self):
        start = [(0, ((1, 1, 1, 10), (0, 1, 2, 3)), NotMatrix), (0, (), NotMatrix), (0, RINGS, NotPointed),
                 (0, RINGED[8], NotPointed)]
        weights = [(1, weight, BadNumber) for weight in [(0, 1), (1,), (61, 0), (1, 0, 0)]]
        for function in (strides, last_level) + TOPS:
            check_errors(self, function, (TWISTED, (1, 0)), start + weights)
        for function in NUMBERS:
            check_errors(self, function, (TWISTED, (1, 0), 5), start + weights + [
                (2, -1, BadNumber), (2, 301, BadNumber)])

    def test_ahead_of_too_large(self):
        for matrix in (WIDE, MORE[0]):
            for function in TOPS + NUMBERS:
                more = (9,) if function in NUMBERS else ()
                with self.assertRaises(BadNumber):
                    function(matrix, (0,) * len(matrix), *more)
                with self.assertRaises(BadNumber):
                    function(matrix, (60,) * len(matrix), *more)
        for function in NUMBERS:
            for n in (-1, 301):
                with self.assertRaises(BadNumber):
                    function(WIDE, (1,), n)

    def test_fresh_lists(self):
        for function in (strides,) + TOPS + NUMBERS:
            more = (9,) if function in NUMBERS else ()
            once = function(GAPPED, (1, 0), *more)
            kept = list(once)
            once.clear()
            self.assertTrue(kept)
            self.assertEqual(function(GAPPED, (1, 0), *more), kept)


if __name__ == "__main__":
    unittest.main()
