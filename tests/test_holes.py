"""Promises [140] to [142]: low sides, fundamental holes, normal matrices."""

import unittest
from functools import lru_cache
from itertools import product
from random import Random

from tallyhull.errors import NoAnswer, NotMatrix, NotPointed, NotSide, TooLarge
from tallyhull.holes import fundamental_holes, is_normal, low_part, low_sides
from tallyhull.matrices import check_side
from tallyhull.staircases import cell_weight
from tests.fibers import ALONE, LISTED, minus, plus, solutions_by_hand, wrong_calls
from tests.samples import (
    FLAT, GAPPED, SLOPED, TWISTED, bases_by_hand, columns_by_hand, first_by_hand, image_by_hand,
    minors_divisor, rank_by_fractions, sides_near)
from tests.test_cheapest import NO_SIDES
from tests.test_staircases import RINGS

WIDER = ((1, 1, 1), (0, 1, 4))
PLAIN = [TWISTED, GAPPED, FLAT, SLOPED, WIDER, ((2, 3),), ((3, 5),), ((4, 6),), ((-3, -5),), ((9,),),
         ((2, 2, 2), (0, 1, 3)), ((1, 1, 1, 1), (0, 1, 4, 5)), ((1, 1, 1), (0, 2, 3)),
         ((0, 0), (2, 3)), ((1, 2, 3), (2, 4, 6)), ((5, -2, 1), (-1, 1, 0)), ((3, 0, 3), (1, 2, 1)),
         ((1, 0, 1), (0, 1, 1)), ((2, 3, 1), (0, 0, 1)), ((3, 0, 1, 2), (0, 3, 1, 1))]
SOLID = [((2, 0, 1, 0), (0, 2, 1, 0), (0, 0, 1, 1)), ((1, 1, 1, 1), (0, 2, 0, 1), (0, 0, 2, 3)),
         ((1, 1, 0), (1, 0, 1), (0, 1, 1)), ((1, 2, 3), (2, 4, 6), (0, 1, 5))]
# Their bases have 19933, and 20001 sums together.
MANY = ((7, 4, 0, -8, -9, -2), (-8, 8, 7, 8, -7, -7), (8, 7, 8, 8, 9, 8))
TOO_MANY = ((6, -9, 5, -9, 3, 6), (8, 2, -6, -6, 6, -9), (9, 9, 9, 9, 8, 7))


@lru_cache(maxsize=None)
def is_in_lattice_by_hand(matrix, side):
    """Whether a side leaves the greatest common divisor of the minors, and the rank."""
    columns = columns_by_hand(matrix)
    size = rank_by_fractions(columns)
    if rank_by_fractions(columns + [side]) > size:
        return False
    return minors_divisor(columns, size) == minors_divisor(columns + [side], size)


def is_between_by_hand(matrix, side):
    return first_by_hand(matrix, side) is not None and is_in_lattice_by_hand(matrix, side)


@lru_cache(maxsize=None)
def is_low_by_hand(matrix, side):
    """[141], as it stands there."""
    if not is_between_by_hand(matrix, side):
        return False
    return not any(first_by_hand(matrix, minus(side, column)) for column in columns_by_hand(matrix))


def reach_of(matrix):
    """How far low sides can lie: they are fractions less than 1 of the columns of a base."""
    return [range(sum(min(0, entry) for entry in row), sum(max(0, entry) for entry in row) + 1)
            for row in matrix]


@lru_cache(maxsize=None)
def low_by_hand(matrix):
    return [side for side in product(*reach_of(matrix)) if is_low_by_hand(matrix, side)]


def sums_by_hand(matrix):
    """The number that [141] counts, for all bases together."""
    return sum(cell_weight(matrix, places) for places in bases_by_hand(matrix))


class LowSides(unittest.TestCase):
    """[141] and [142]"""

    def test_against_the_words(self):
        holes = 0
        for matrix in PLAIN + SOLID:
            wanted = low_by_hand(matrix)
            found = low_sides(matrix)
            self.assertIsInstance(found, list)
            self.assertEqual(found, wanted, matrix)
            self.assertEqual(fundamental_holes(matrix), [side for side in wanted if any(side)])
            self.assertIs(is_normal(matrix), len(wanted) == 1)
            holes += len(wanted) - 1
        self.assertGreater(holes, 20)

    def test_none_but_0_is_solved(self):
        for matrix in PLAIN + SOLID:
            for side in low_sides(matrix):
                self.assertEqual(bool(solutions_by_hand(matrix, side)), not any(side))
            for hole in fundamental_holes(matrix):
                self.assertEqual(solutions_by_hand(matrix, hole), ())

    def test_other_matrices_have_low_sides_that_are_low(self):
        for matrix in LISTED:
            found = low_sides(matrix)
            self.assertEqual(found, sorted(set(found)))
            self.assertIn((0,) * len(matrix), found)
            for side in found[:20]:
                check_side(matrix, side)
                self.assertIs(is_low_by_hand(matrix, side), True)

    def test_by_hand(self):
        for matrix, wanted in [
                (TWISTED, []), (GAPPED, [(1, 2)]), (WIDER, [(1, 2), (1, 3)]), (((2, 3),), [(1,)]),
                (((3, 5),), [(1,), (2,)]), (((4, 6),), [(2,)]), (((-3, -5),), [(-2,), (-1,)]),
                (((9,),), []), (((9, 8, 7, 6, 5, 4),), [(1,), (2,), (3,)]), (FLAT, []), (SLOPED, []),
                (((0, 0), (2, 3)), [(0, 1)]), (((4, 6), (-4, -6), (0, 0)), [(2, -2, 0)]),
                (((2, 0, 1), (0, 2, 1)), []), (((3, 0, 1), (0, 3, 2)), [(2, 1)]),
                (((1, 1, 1, 1), (0, 1, 3, 4)), [(1, 2)]), (((6, 6, 9),), [(3,)])]:
            with self.subTest(matrix=matrix):
                self.assertEqual(fundamental_holes(matrix), wanted)
                self.assertEqual(low_sides(matrix), sorted(wanted + [(0,) * len(matrix)]))
                self.assertIs(is_normal(matrix), not wanted)
        for matrix in ALONE:
            self.assertIs(is_normal(matrix), True)

    def test_columns_in_another_order(self):
        for matrix in PLAIN:
            turned = tuple(row[::-1] for row in matrix)
            self.assertEqual(low_sides(turned), low_sides(matrix))


class LowParts(unittest.TestCase):
    """[141]: each side of the cone and of the lattice has a low part"""

    def check_part(self, matrix, side):
        found = low_part(matrix, side)
        self.assertIsInstance(found, tuple)
        low, times = found
        self.assertIs(is_low_by_hand(matrix, low), True)
        self.assertEqual(len(times), len(matrix[0]))
        self.assertGreaterEqual(min(times), 0)
        self.assertEqual(plus(low, image_by_hand(matrix, times)), side)

    def test_small_sides(self):
        told = {True: 0, False: 0}
        for matrix in PLAIN + SOLID:
            for side in sides_near(matrix, {1: 20, 2: 6, 3: 3}[len(matrix)]):
                between = is_between_by_hand(matrix, side)
                told[between] += 1
                if between:
                    self.check_part(matrix, side)
                else:
                    with self.assertRaises(NoAnswer):
                        low_part(matrix, side)
        self.assertGreater(min(told.values()), 100)

    def test_sums_of_columns_and_holes(self):
        source = Random(141)
        for matrix in PLAIN + SOLID:
            for low in low_sides(matrix):
                self.assertEqual(low_part(matrix, low), (low, (0,) * len(matrix[0])))
                for _ in range(3):
                    times = tuple(source.randint(0, 900) for _ in matrix[0])
                    self.check_part(matrix, plus(low, image_by_hand(matrix, times)))

    def test_great_sides(self):
        self.check_part(GAPPED, (300000, 899999))
        self.check_part(((3, 5),), (1000000,))
        self.check_part(((-3, -5),), (-999999,))
        self.check_part(TWISTED, (1000000, 1000000))
        self.check_part(((9, 8, 7, 6, 5, 4),), (1000000,))

    def test_a_side_outside_of_the_cone_or_of_the_lattice(self):
        for matrix, side in [(GAPPED, (1, 4)), (GAPPED, (1, -1)), (SLOPED, (1, 0)), (SLOPED, (0, 6)),
                             (SLOPED, (7, 8)), (FLAT, (1, 3)), (((4, 6),), (5,)), (((4, 6),), (-2,)),
                             (((9,),), (1,)), (((9,),), (-9,))]:
            with self.subTest(matrix=matrix, side=side):
                with self.assertRaises(NoAnswer):
                    low_part(matrix, side)


class Wrong(unittest.TestCase):
    """The errors, and their order"""

    START = [(0, ((1, 1, 1, 10), (0, 1, 2, 3)), NotMatrix), (0, RINGS, NotPointed)]

    def test_errors(self):
        for function in (low_sides, fundamental_holes, is_normal):
            for arguments, error in wrong_calls((GAPPED,), self.START):
                with self.assertRaises(error):
                    function(*arguments)
        wrongs = self.START + [(1, side, NotSide) for side in NO_SIDES] + [(1, (1, 4), NoAnswer)]
        for arguments, error in wrong_calls((GAPPED, (1, 2)), wrongs):
            with self.subTest(arguments=arguments):
                with self.assertRaises(error):
                    low_part(*arguments)

    def test_too_large(self):
        self.assertEqual(sums_by_hand(MANY), 19933)
        self.assertEqual(sums_by_hand(TOO_MANY), 20001)
        self.assertEqual(len(low_sides(MANY)), len(fundamental_holes(MANY)) + 1)
        self.assertIs(is_normal(MANY), False)
        for function in (low_sides, fundamental_holes, is_normal):
            with self.assertRaises(TooLarge):
                function(TOO_MANY)
        # Low parts need no fundamental holes.
        low, times = low_part(TOO_MANY, image_by_hand(TOO_MANY, (1, 2, 3, 4, 5, 6)))
        self.assertEqual(plus(low, image_by_hand(TOO_MANY, times)),
                         image_by_hand(TOO_MANY, (1, 2, 3, 4, 5, 6)))

    def test_fresh_lists(self):
        for function in (low_sides, fundamental_holes):
            once = function(WIDER)
            kept = list(once)
            once.clear()
            self.assertEqual(function(WIDER), kept)


if __name__ == "__main__":
    unittest.main()
