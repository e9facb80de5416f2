"""Promises [280] to [285]: relaxed columns."""

import unittest
from fractions import Fraction
from functools import lru_cache
from itertools import product
from random import Random

from tallyhull.boxes import boxes
from tallyhull.cheapest import first_solution, optimum
from tallyhull.errors import BadNumber, NotCost, NotMatrix, NotPointed, NotSide, TooLarge
from tallyhull.lattices import lattice_answer
from tallyhull.optima import fraction_optimum
from tallyhull.relaxed import (
    best_bound, class_vectors, exact_cells, is_exact, relaxed_first, relaxed_optimum)
from tallyhull.staircases import cell_weight, cells
from tests.fibers import ALONE, LISTED, WIDE, check_errors, costs_for, key_of, plus, solutions_by_hand
from tests.samples import (
    FLAT, GAPPED, SLOPED, TWISTED, columns_by_hand, dot, image_by_hand, rank_by_fractions, sides_near,
    solved_by_fractions)
from tests.test_cheapest import NO_SIDES
from tests.test_moves import COST, START
from tests.test_testsets import CUBIC, PLAIN

COINS, ONES = ((2, 3),), (1, 1)
FEW = [matrix for matrix in PLAIN + [SLOPED, ((3, 5),), ((4, 6),), ((2, 0, 1), (0, 3, 1))]
       if len(matrix[0]) < 4 or matrix == TWISTED]
# No cells of TWISTED with COST, whose only one is (0, 3).
NO_CELLS = [(), (0,), (3,), (0, 1), (1, 2), (3, 0), (0, 0), (0, 3, 3), (0, 1, 3), (0, 4), (-1, 3), (-4, 3),
            (0, 1, 2, 3), (10 ** 30, 3), (0, 10 ** 30), (3, 3), (1, 3)]


@lru_cache(maxsize=None)
def relaxed_by_hand(matrix, cost, cell, side):
    """[280]: of the vectors with small entries outside of the cell, as [281] has them."""
    columns = columns_by_hand(matrix)
    weight = cell_weight(matrix, cell)
    if rank_by_fractions(columns + [side]) > len(cell):
        return None
    found = []
    for u in product(*[range(1) if k in cell else range(weight + 1) for k in range(len(columns))]):
        left = tuple(a - b for a, b in zip(side, image_by_hand(matrix, u)))
        shares = solved_by_fractions([columns[k] for k in cell], left)
        if all(share.denominator == 1 for share in shares):
            told = dict(zip(cell, map(int, shares)))
            found.append(tuple(told.get(k, entry) for k, entry in enumerate(u)))
    return min(found, key=lambda x: key_of(cost, x)) if found else None


def outside(cell, vector):
    return tuple(0 if k in cell else entry for k, entry in enumerate(vector))


def near(matrix):
    return sides_near(matrix, {1: 12, 2: 3, 3: 1}[len(matrix)])[::2]


class Relaxed(unittest.TestCase):
    """[280] and [281]"""

    def test_against_the_words(self):
        kinds = set()
        for matrix in FEW:
            for cost in costs_for(matrix)[1:4]:
                for cell in cells(matrix, cost):
                    if cell_weight(matrix, cell) > 6:
                        continue
                    for side in near(matrix):
                        found = relaxed_first(matrix, cost, cell, side)
                        self.assertEqual(found, relaxed_by_hand(matrix, cost, cell, side),
                                         (matrix, cost, cell, side))
                        self.assertEqual(found is None, lattice_answer(matrix, side)[0] == "rest")
                        self.assertEqual(relaxed_optimum(matrix, cost, cell, side),
                                         None if found is None else dot(cost, found))
                        self.assertIs(is_exact(matrix, cost, cell, side), found is not None and min(found) >= 0)
                        kinds.add(found if found is None else min(found) >= 0)
        self.assertEqual(kinds, {None, True, False})

    def test_class_vectors(self):
        several = 0
        for matrix in FEW + LISTED[::3]:
            for cost in costs_for(matrix)[1:4]:
                told = boxes(matrix, cost)
                for cell in cells(matrix, cost):
                    found = class_vectors(matrix, cost, cell)
                    self.assertIsInstance(found, list)
                    self.assertEqual(found, sorted(u for u, free in told if free == cell))
                    self.assertEqual(len(found), cell_weight(matrix, cell))
                    for u in found:
                        side = image_by_hand(matrix, u)
                        self.assertEqual(relaxed_first(matrix, cost, cell, side), u)
                    several += len(found) > 2
        self.assertGreater(several, 30)

    def test_each_class_has_one(self):
        for matrix in FEW:
            for cost in costs_for(matrix)[1:4]:
                for cell in cells(matrix, cost):
                    found = class_vectors(matrix, cost, cell)
                    for side in near(matrix):
                        first = relaxed_first(matrix, cost, cell, side)
                        if first is not None:
                            self.assertEqual(image_by_hand(matrix, first), side)
                            self.assertIn(outside(cell, first), found)

    def test_sums_of_columns_of_the_cell(self):
        source = Random(281)
        for matrix in FEW + LISTED[::4]:
            cost = costs_for(matrix)[2]
            for cell in cells(matrix, cost)[:3]:
                side = image_by_hand(matrix, tuple(source.randint(-2, 2) for _ in cost))
                first = relaxed_first(matrix, cost, cell, side)
                added = tuple(source.randint(-50, 50) if k in cell else 0 for k in range(len(cost)))
                other = plus(side, image_by_hand(matrix, added))
                self.assertEqual(relaxed_first(matrix, cost, cell, other), plus(first, added))

    def test_far_sides(self):
        first = relaxed_first(COINS, ONES, (1,), (1000000,))
        self.assertEqual(first, (2, 333332))
        self.assertEqual(relaxed_first(COINS, ONES, (1,), (-1000000,)), (1, -333334))
        self.assertIs(is_exact(COINS, ONES, (1,), (-1000000,)), False)
        self.assertEqual(best_bound(COINS, ONES, (-1000000,)), -333333)


class Bounds(unittest.TestCase):
    """[282] to [284]"""

    def test_against_optima(self):
        source = Random(282)
        kinds = {"equal": 0, "less": 0, "behind": 0}
        for matrix in FEW + LISTED[::4]:
            for cost in costs_for(matrix)[1:5]:
                columns = columns_by_hand(matrix)
                sides = [image_by_hand(matrix, tuple(source.randint(0, 2) for _ in cost)) for _ in range(4)]
                for side in sides:
                    best = optimum(matrix, cost, side)
                    first = first_solution(matrix, cost, side)
                    bounds = []
                    for cell in cells(matrix, cost):
                        found = relaxed_first(matrix, cost, cell, side)
                        bounds.append(dot(cost, found))
                        self.assertLessEqual(bounds[-1], best)
                        shares = solved_by_fractions([columns[k] for k in cell], side)
                        if min(shares) >= 0:
                            self.assertGreaterEqual(bounds[-1], Fraction(*fraction_optimum(matrix, cost, side)))
                        if min(found) >= 0:
                            self.assertEqual(found, first)
                            kinds["equal"] += 1
                        else:
                            self.assertLess(key_of(cost, found), key_of(cost, first))
                            kinds["less" if bounds[-1] < best else "behind"] += 1
                    told = best_bound(matrix, cost, side)
                    self.assertEqual(told, max(bounds))
                    if any(set(k for k in range(len(cost)) if first[k] != u[k]) <= set(free)
                           and free in cells(matrix, cost) for u, free in boxes(matrix, cost)):
                        self.assertEqual(told, best)
        self.assertGreater(kinds["equal"], 200)
        self.assertGreater(kinds["less"], 50)
        self.assertGreater(kinds["behind"], 5)

    def test_exact_cells(self):
        counts = set()
        for matrix in FEW:
            for cost in costs_for(matrix)[1:4]:
                for side in near(matrix):
                    found = exact_cells(matrix, cost, side)
                    self.assertIsInstance(found, list)
                    every = cells(matrix, cost)
                    self.assertEqual(found, [cell for cell in every if is_exact(matrix, cost, cell, side)])
                    if found:
                        self.assertTrue(solutions_by_hand(matrix, side))
                    counts.add(min(len(found), 2) if len(every) > 1 else -1 - len(found))
        self.assertLessEqual({0, 1, 2, -1, -2}, counts)

    def test_columns_of_the_cell_added(self):
        # [283]
        for matrix in FEW:
            for cost in costs_for(matrix)[1:4]:
                columns = columns_by_hand(matrix)
                for cell in cells(matrix, cost):
                    for side in near(matrix)[::5]:
                        first = relaxed_first(matrix, cost, cell, side)
                        if first is None:
                            continue
                        lacking = tuple(max(0, -entry) for entry in first)
                        other = plus(side, image_by_hand(matrix, lacking))
                        self.assertIs(is_exact(matrix, cost, cell, other), True)
                        self.assertEqual(first_solution(matrix, cost, other), plus(first, lacking))
                        for k in cell:
                            more = plus(other, columns[k])
                            self.assertIs(is_exact(matrix, cost, cell, more), True)
                            unit = tuple(int(j == k) for j in range(len(cost)))
                            self.assertEqual(first_solution(matrix, cost, more),
                                             plus(plus(first, lacking), unit))

    def test_outside_of_the_lattice(self):
        for matrix, cost, side in [(SLOPED, (1, 1), (1, 0)), (((4, 6),), (1, 1), (3,)), (FLAT, (1, 1), (1, 1)),
                                   (FLAT, (1, 3), (0, 1))]:
            for cell in cells(matrix, cost):
                self.assertIsNone(relaxed_first(matrix, cost, cell, side))
                self.assertIsNone(relaxed_optimum(matrix, cost, cell, side))
                self.assertIs(is_exact(matrix, cost, cell, side), False)
            self.assertIsNone(best_bound(matrix, cost, side))
            self.assertEqual(exact_cells(matrix, cost, side), [])

    def test_bounds_that_are_less(self):
        # (1,) has no solution, but relaxed ones.
        self.assertEqual(best_bound(COINS, ONES, (1,)), 1)
        self.assertEqual(exact_cells(COINS, ONES, (1,)), [])
        # First solutions in boxes whose free columns are no cell alone: the bound is less.
        matrix, cost = ((1, 1, 1, 1), (0, 1, 3, 4)), (0, 0, 1, 0)
        less = 0
        for side in sides_near(matrix, 9):
            best = optimum(matrix, cost, side)
            if best is not None and best_bound(matrix, cost, side) < best:
                self.assertEqual(exact_cells(matrix, cost, side), [])
                less += 1
        self.assertGreater(less, 0)

    def test_told(self):
        for matrix, cost, side, bound, exact in [
                (COINS, ONES, (4,), 2, [(1,)]), (COINS, ONES, (0,), 0, [(1,)]), (COINS, ONES, (6,), 2, [(1,)]),
                (GAPPED, (0, 2, 3), (2, 2), 4, [(0, 2)]), (TWISTED, COST, (3, 4), 1, [(0, 3)]),
                (GAPPED, (0, 0, 3), (1, 1), 0, [(0, 1), (1, 2)]), (GAPPED, (0, 0, 3), (1, 0), 0, [(0, 1), (1, 2)]),
                (GAPPED, (0, 0, 3), (1, 3), 3, [(1, 2)]), (SLOPED, (1, 1), (6, 6), 2, [(0, 1)])]:
            with self.subTest(matrix=matrix, cost=cost, side=side):
                self.assertEqual(best_bound(matrix, cost, side), bound)
                self.assertEqual(exact_cells(matrix, cost, side), exact)


class Example(unittest.TestCase):
    """[285]"""

    def test_the_example(self):
        self.assertEqual(cells(((2, 3),), (1, 1)), [(1,)])
        self.assertEqual(class_vectors(((2, 3),), (1, 1), (1,)), [(0, 0), (1, 0), (2, 0)])
        self.assertEqual(relaxed_first(((2, 3),), (1, 1), (1,), (1,)), (2, -1))
        self.assertEqual(relaxed_optimum(((2, 3),), (1, 1), (1,), (1,)), 1)
        self.assertIs(is_exact(((2, 3),), (1, 1), (1,), (1,)), False)
        self.assertEqual(solutions_by_hand(((2, 3),), (1,)), ())
        self.assertIs(is_exact(((2, 3),), (1, 1), (1,), (4,)), True)


class Wrong(unittest.TestCase):
    """The errors, and their order"""

    def test_errors(self):
        wrong = [(2, cell, BadNumber) for cell in NO_CELLS]
        check_errors(self, class_vectors, (TWISTED, COST, (0, 3)), START + wrong)
        sides = [(3, side, NotSide) for side in NO_SIDES]
        for function in (relaxed_first, relaxed_optimum, is_exact):
            check_errors(self, function, (TWISTED, COST, (0, 3), (3, 4)), START + sides + wrong)
        sides = [(2, side, NotSide) for side in NO_SIDES]
        for function in (best_bound, exact_cells):
            check_errors(self, function, (TWISTED, COST, (3, 4)), START + sides)

    def test_which_tuples_are_cells(self):
        for matrix in PLAIN + LISTED + ALONE:
            for cost in costs_for(matrix):
                every = cells(matrix, cost)
                for size in range(4):
                    for places in product(range(len(cost)), repeat=size):
                        if places in every:
                            continue
                        if size < 3 or len(cost) < 4:
                            with self.assertRaises(BadNumber):
                                class_vectors(matrix, cost, places)
                for cell in every[:2]:
                    class_vectors(matrix, cost, cell)
        # Another cost has another cell.
        for cost, other in [(COST, CUBIC), (CUBIC, COST)]:
            for cell in cells(TWISTED, cost):
                if cell not in cells(TWISTED, other):
                    with self.assertRaises(BadNumber):
                        relaxed_first(TWISTED, other, cell, (3, 4))

    def test_too_large(self):
        zeros = (0,) * 6
        start = [(0, ((9, 8, 7, 6, 5, 10),), NotMatrix), (0, ((9, 8, 7, 6, 5, -4),), NotPointed),
                 (1, zeros[1:], NotCost)]
        # With the cost of zeros the last column is taken as often as can be: (5,) is the only cell.
        wrong = [(2, cell, BadNumber) for cell in [(), (0,), (4,), (4, 5), (6,)]]
        check_errors(self, class_vectors, (WIDE, zeros, (5,)), start + wrong)
        with self.assertRaises(TooLarge):
            class_vectors(WIDE, zeros, (5,))
        for function in (relaxed_first, relaxed_optimum, is_exact):
            check_errors(self, function, (WIDE, zeros, (5,), (1,)), start + [(3, (1, 1), NotSide)] + wrong)
            with self.assertRaises(TooLarge):
                function(WIDE, zeros, (5,), (1,))
        for function in (best_bound, exact_cells):
            check_errors(self, function, (WIDE, zeros, (1,)), start + [(2, (1, 1), NotSide)])
            with self.assertRaises(TooLarge):
                function(WIDE, zeros, (1,))
        matrix, cost = ((2, 6, 0, 5, 0), (9, 4, 8, 6, 8), (7, 8, 6, 7, 9)), (0, 0, 0, 0, 0)
        for cell in cells(matrix, cost):
            with self.assertRaises(TooLarge):
                class_vectors(matrix, cost, cell)
        with self.assertRaises(TooLarge):
            best_bound(matrix, cost, (2, 9, 7))

    def test_fresh_lists(self):
        for function, more in [(class_vectors, ((1,),)), (exact_cells, ((4,),))]:
            once = function(COINS, ONES, *more)
            kept = list(once)
            once.clear()
            self.assertTrue(kept)
            self.assertEqual(function(COINS, ONES, *more), kept)


if __name__ == "__main__":
    unittest.main()
