"""Promises [240] to [246]: Hilbert lists."""

import unittest
from functools import lru_cache
from itertools import product
from math import gcd
from random import Random

from tallyhull.alikes import least_columns
from tallyhull.cones import facets
from tallyhull.errors import NoAnswer, NotMatrix, NotPointed, NotSide, TooLarge
from tallyhull.hilbert import (
    full_sum, hilbert_list, is_full, is_hilbert_paper, is_least_side, missing_sides, spare_columns,
    with_missing)
from tallyhull.holes import fundamental_holes, is_normal
from tallyhull.matrices import is_matrix, is_side
from tests.fibers import ALONE, LISTED, check_errors, minus, plus, solutions_by_hand
from tests.samples import (
    FLAT, GAPPED, SLOPED, TWISTED, bases_by_hand, columns_by_hand, dot, image_by_hand, sides_near,
    solved_by_fractions)
from tests.test_cheapest import NO_SIDES
from tests.test_holes import (
    MANY, PLAIN, SOLID, TOO_MANY, is_between_by_hand, is_in_lattice_by_hand, reach_of)
from tests.test_staircases import RINGS

FEW = [matrix for matrix in PLAIN + SOLID if len(matrix[0]) < 5]
# All of its columns but two are sums, or equal to another one.
SPARE = ((1, 1, 2, 1, 2), (0, 2, 2, 0, 3))


def from_columns(columns):
    return tuple(zip(*columns))


@lru_cache(maxsize=None)
def full_by_hand(matrix):
    """The full tuples other than 0 within the reach of the sums of columns."""
    return [side for side in product(*reach_of(matrix))
            if any(side) and is_between_by_hand(matrix, side)]


@lru_cache(maxsize=None)
def least_by_hand(matrix):
    """[240], as it stands there; a sum of full tuples is one of two, one of which is least."""
    every = full_by_hand(matrix)
    return [side for side in every if not any(
        other != side and is_between_by_hand(matrix, minus(side, other)) for other in every)]


def base_sums(matrix):
    """The sides of [141], for each base, and the columns."""
    columns = columns_by_hand(matrix)
    found = set(columns)
    for side in product(*reach_of(matrix)):
        if is_in_lattice_by_hand(matrix, side):
            for places in bases_by_hand(matrix):
                shares = solved_by_fractions([columns[k] for k in places], side)
                if shares is not None and all(0 <= share < 1 for share in shares):
                    found.add(side)
    return found


def is_sum_by_hand(matrix, listed, side):
    """Whether a side is a sum of full tuples of a list."""
    if not any(side):
        return True
    return any(is_between_by_hand(matrix, minus(side, other))
               and is_sum_by_hand(matrix, listed[at:], minus(side, other))
               for at, other in enumerate(listed) if any(other))


class Full(unittest.TestCase):
    """[240] and [242]"""

    def test_full_sides(self):
        told = {True: 0, False: 0}
        for matrix in PLAIN + SOLID:
            for side in sides_near(matrix, {1: 30, 2: 7, 3: 3}[len(matrix)]):
                found = is_full(matrix, side)
                self.assertIs(found, is_between_by_hand(matrix, side))
                if solutions_by_hand(matrix, side):
                    self.assertIs(found, True)
                told[found] += 1
        self.assertGreater(min(told.values()), 300)
        self.assertIs(is_full(((2, 4),), (1000000,)), True)
        self.assertIs(is_full(((2, 4),), (999999,)), False)
        self.assertIs(is_full(GAPPED, (1000000, -1)), False)

    def test_least_ones_against_the_words(self):
        missing = 0
        for matrix in FEW:
            found = hilbert_list(matrix)
            self.assertIsInstance(found, list)
            self.assertEqual(found, least_by_hand(matrix), matrix)
            missing += len(set(found) - set(columns_by_hand(matrix)))
            for side in full_by_hand(matrix) + sides_near(matrix, 2):
                self.assertIs(is_least_side(matrix, side), side in found)
        self.assertGreater(missing, 10)

    def test_by_the_columns_and_holes(self):
        # [242] and [241], also for matrices with many holes.
        for matrix in LISTED + [MANY]:
            columns = columns_by_hand(matrix)
            holes = fundamental_holes(matrix)
            found = hilbert_list(matrix)
            self.assertLessEqual(set(found), set(columns + holes))
            for side in sorted(set(columns + holes))[:60]:
                others = [other for other in columns + holes if other != side]
                told = not any(is_full(matrix, minus(side, other)) for other in others
                               if is_side(matrix, minus(side, other)))
                self.assertIs(side in found, told)

    def test_told(self):
        for matrix, told in [
                (TWISTED, [(1, 0), (1, 1), (1, 2), (1, 3)]), (FLAT, [(1, 2)]), (SLOPED, [(2, 1), (4, 5)]),
                (((9, 8, 7, 6, 5, 4),), [(1,)]), (((6, 6, 9),), [(3,)]), (((-4, -6),), [(-2,)]), (((9,),), [(9,)]),
                (((1, 1, 1), (0, 1, 4)), [(1, 0), (1, 1), (1, 2), (1, 3), (1, 4)]),
                (((0, 0), (2, 3)), [(0, 1)]), (((3, 0, 1), (0, 3, 2)), [(0, 3), (1, 2), (2, 1), (3, 0)]),
                (((1, 1, 1), (0, 2, 3)), [(1, 0), (1, 1), (1, 2), (1, 3)]),
                (SPARE, [(1, 0), (1, 1), (1, 2)])]:
            with self.subTest(matrix=matrix):
                self.assertEqual(hilbert_list(matrix), told)

    def test_0_is_not_least(self):
        for matrix in FEW:
            zeros = (0,) * len(matrix)
            self.assertIs(is_full(matrix, zeros), True)
            self.assertIs(is_least_side(matrix, zeros), False)


class Sums(unittest.TestCase):
    """[241]"""

    def check_sum(self, matrix, side):
        found = full_sum(matrix, side)
        self.assertIsInstance(found, list)
        self.assertEqual(found, sorted(found))
        self.assertEqual(len({part for part, _ in found}), len(found))
        least = hilbert_list(matrix)
        total = (0,) * len(matrix)
        for part, times in found:
            self.assertIn(part, least)
            self.assertGreaterEqual(times, 1)
            total = plus(total, tuple(times * entry for entry in part))
        self.assertEqual(total, side)

    def test_sums(self):
        source = Random(241)
        for matrix in FEW:
            for side in full_by_hand(matrix)[::3]:
                self.check_sum(matrix, side)
        for matrix in LISTED + ALONE + [MANY]:
            self.assertEqual(full_sum(matrix, (0,) * len(matrix)), [])
            for _ in range(3):
                vector = tuple(source.choice([0, 1, source.randint(0, 2000)]) for _ in matrix[0])
                self.check_sum(matrix, image_by_hand(matrix, vector))
            for hole in fundamental_holes(matrix)[:10]:
                self.check_sum(matrix, plus(hole, columns_by_hand(matrix)[0]))

    def test_great_sides_and_no_full_ones(self):
        self.assertEqual(full_sum(((4, 6),), (1000000,)), [((2,), 500000)])
        self.check_sum(GAPPED, (1000000, 999997))
        for matrix, side in [(((4, 6),), (3,)), (((4, 6),), (-2,)), (GAPPED, (1, 4)), (SLOPED, (1, 0)),
                             (FLAT, (1, 1)), (TWISTED, (0, 1))]:
            with self.assertRaises(NoAnswer):
                full_sum(matrix, side)


class Missing(unittest.TestCase):
    """[243]"""

    def test_missing_and_spare(self):
        missing = spare = 0
        for matrix in FEW + LISTED + ALONE:
            columns = columns_by_hand(matrix)
            least = hilbert_list(matrix)
            found = missing_sides(matrix)
            self.assertEqual(found, sorted(set(least) - set(columns)))
            self.assertLessEqual(set(found), set(fundamental_holes(matrix)))
            self.assertIs(not found, is_normal(matrix))
            left = spare_columns(matrix)
            self.assertEqual(left, [k for k in range(len(columns))
                                    if columns[k] not in least or columns[k] in columns[:k]])
            if not found:
                # Without missing sides the least ones are the least columns.
                self.assertEqual(least_columns(matrix), least)
            missing += bool(found)
            spare += bool(left)
        self.assertGreater(missing, 20)
        self.assertGreater(spare, 20)

    def test_told(self):
        for matrix, missing, spare in [
                (GAPPED, [(1, 2)], []), (TWISTED, [], []), (((2, 3),), [(1,)], [0, 1]), (FLAT, [], [1]),
                (((1, 1, 1),), [], [1, 2]), (((2, 1, 1),), [], [0, 2]), (SPARE, [(1, 1)], [2, 3, 4]),
                (((1, 1, 1), (0, 2, 3)), [(1, 1)], []), (((9,),), [], []), (((4, 6, 2),), [], [0, 1])]:
            with self.subTest(matrix=matrix):
                self.assertEqual(missing_sides(matrix), missing)
                self.assertEqual(spare_columns(matrix), spare)

    def test_with_missing(self):
        made = 0
        for matrix in FEW + LISTED:
            missing = missing_sides(matrix)
            wanted = from_columns(columns_by_hand(matrix) + missing)
            if not is_matrix(wanted):
                with self.assertRaises(NoAnswer):
                    with_missing(matrix)
                continue
            found = with_missing(matrix)
            self.assertEqual(found, wanted)
            self.assertEqual(facets(found), facets(matrix))
            self.assertEqual(hilbert_list(found), hilbert_list(matrix))
            self.assertIs(is_normal(found), True)
            made += bool(missing)
        self.assertGreater(made, 20)

    def test_with_missing_told(self):
        self.assertEqual(with_missing(GAPPED), ((1, 1, 1, 1), (0, 1, 3, 2)))
        self.assertEqual(with_missing(TWISTED), TWISTED)
        self.assertEqual(with_missing(((2, 3),)), ((2, 3, 1),))
        for matrix in [((1, 1, 1), (0, 1, 7)), ((2, 3, 4, 5, 6, 7),), ((1, 1, 1), (0, 1, 9))]:
            with self.subTest(matrix=matrix):
                with self.assertRaises(NoAnswer):
                    with_missing(matrix)
        self.assertEqual(len(with_missing(((1, 1, 1), (0, 1, 5)))[0]), 6)


class Papers(unittest.TestCase):
    """[244]"""

    def test_against_the_words(self):
        source = Random(244)
        told = {True: 0, False: 0}
        for matrix in FEW:
            needed = sorted(base_sums(matrix))
            least = hilbert_list(matrix)
            near = sides_near(matrix, 3)
            for k in range(14):
                sides = list(least)
                if k % 3 == 0:
                    del sides[source.randrange(len(sides))]
                if k % 2 == 0:
                    sides += source.sample(full_by_hand(matrix), min(2, len(full_by_hand(matrix))))
                if k % 5 == 1:
                    sides.append(source.choice(near))
                if k % 7 == 2:
                    sides[:1] = [source.choice(near)]
                source.shuffle(sides)
                wanted = all(is_between_by_hand(matrix, side) for side in sides) and all(
                    is_sum_by_hand(matrix, sides, side) for side in needed)
                self.assertIs(is_hilbert_paper(matrix, sides), wanted, (matrix, sides))
                told[wanted] += 1
        self.assertGreater(min(told.values()), 100)

    def test_one_less_one_more_one_changed(self):
        for matrix in FEW + ALONE:
            least = hilbert_list(matrix)
            self.assertIs(is_hilbert_paper(matrix, least), True)
            self.assertIs(is_hilbert_paper(matrix, least[::-1]), True)
            self.assertIs(is_hilbert_paper(matrix, least + least), True)
            self.assertIs(is_hilbert_paper(matrix, least + [(0,) * len(matrix)]), True)
            self.assertIs(is_hilbert_paper(matrix, least + [plus(least[0], least[-1])]), True)
            self.assertIs(is_hilbert_paper(matrix, least + [minus((0,) * len(matrix), least[0])]), False)
            self.assertIs(is_hilbert_paper(matrix, []), False)
            for k in range(len(least)):
                self.assertIs(is_hilbert_paper(matrix, least[:k] + least[k + 1:]), False)
                more = plus(least[k], least[k])
                self.assertIs(is_hilbert_paper(matrix, least[:k] + [more] + least[k + 1:]), False)
        self.assertIs(is_hilbert_paper(((2, 4),), [(2,), (3,)]), False)
        self.assertIs(is_hilbert_paper(((2, 4),), [(2,), (1000000,)]), True)


class Changed(unittest.TestCase):
    """[245]"""

    def test_rows_added_and_turned(self):
        for matrix in FEW:
            turned = tuple(tuple(-entry for entry in row) for row in matrix[:1]) + matrix[1:]
            self.assertEqual(hilbert_list(turned),
                             sorted((-side[0],) + side[1:] for side in hilbert_list(matrix)))
            if len(matrix) > 1:
                added = (plus(matrix[0], matrix[1]),) + matrix[1:]
                self.assertEqual(hilbert_list(added), sorted(
                    (side[0] + side[1],) + side[1:] for side in hilbert_list(matrix)))
            mirrored = tuple(row[::-1] for row in matrix)
            self.assertEqual(hilbert_list(mirrored), hilbert_list(matrix))

    def test_one_row(self):
        for coins in product(range(1, 10), repeat=3):
            self.assertEqual(hilbert_list((coins,)), [(gcd(*coins),)])

    def test_facets_are_not_negative_at_least_ones(self):
        for matrix in FEW:
            for row in facets(matrix):
                self.assertGreaterEqual(min(dot(row, side) for side in hilbert_list(matrix)), 0)


class Example(unittest.TestCase):
    """[246]"""

    def test_the_example(self):
        self.assertEqual(hilbert_list(GAPPED), [(1, 0), (1, 1), (1, 2), (1, 3)])
        self.assertEqual(missing_sides(GAPPED), [(1, 2)])
        self.assertEqual(hilbert_list(((2, 3),)), [(1,)])
        self.assertEqual(spare_columns(((2, 3),)), [0, 1])


class Wrong(unittest.TestCase):
    """The errors, and their order"""

    def test_errors(self):
        start = [(0, ((1, 1, 1, 10), (0, 1, 2, 3)), NotMatrix), (0, (), NotMatrix), (0, RINGS, NotPointed)]
        for function in (hilbert_list, missing_sides, spare_columns, with_missing):
            check_errors(self, function, (TWISTED,), start)
        sides = [(1, side, NotSide) for side in NO_SIDES]
        for function in (is_full, is_least_side, full_sum):
            check_errors(self, function, (TWISTED, (3, 4)), start + sides)
        lists = [(1, [(1, 0), side], NotSide) for side in NO_SIDES]
        check_errors(self, is_hilbert_paper, (TWISTED, [(1, 0)]), start + lists)

    def test_too_large(self):
        for function in (hilbert_list, missing_sides, spare_columns, with_missing):
            with self.assertRaises(TooLarge):
                function(TOO_MANY)
        for function, good in [(is_least_side, (1, 2, 3)), (full_sum, (-9, -9, -9)), (full_sum, (0, 0, 0))]:
            for side in (good, (6, 8, 9)):
                with self.assertRaises(TooLarge):
                    function(TOO_MANY, side)
            with self.assertRaises(NotSide):
                function(TOO_MANY, (1, 2))
        with self.assertRaises(TooLarge):
            is_hilbert_paper(TOO_MANY, [])
        with self.assertRaises(NotSide):
            is_hilbert_paper(TOO_MANY, [(6, 8, 9), (1, 2)])
        self.assertIs(is_full(TOO_MANY, (6, 8, 9)), True)
        self.assertIs(is_full(TOO_MANY, (0, 0, -1)), False)
        self.assertEqual(len(hilbert_list(MANY)), 93)
        with self.assertRaises(NoAnswer):
            with_missing(MANY)
        with self.assertRaises(NoAnswer):
            full_sum(MANY, (0, 0, -1))

    def test_fresh_lists(self):
        for function in (hilbert_list, missing_sides, spare_columns):
            matrix = GAPPED if function != spare_columns else FLAT
            once = function(matrix)
            kept = list(once)
            once.clear()
            self.assertTrue(kept)
            self.assertEqual(function(matrix), kept)
        once = full_sum(GAPPED, (3, 4))
        kept = list(once)
        once.clear()
        self.assertEqual(full_sum(GAPPED, (3, 4)), kept)
        given = [(1, 0), (1, 1), (1, 2), (1, 3)]
        is_hilbert_paper(GAPPED, given)
        self.assertEqual(given, [(1, 0), (1, 1), (1, 2), (1, 3)])


if __name__ == "__main__":
    unittest.main()
