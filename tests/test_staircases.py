"""Promises [100], [102] and the weight of [103]: corners, free sets, cells."""

import unittest
from itertools import combinations, product

from tallyhull.cones import rank_of
from tallyhull.errors import BadNumber, NoAnswer, NotCost, NotMatrix, NotPointed, TooLarge
from tallyhull.staircases import cell_weight, cells, corners, free_sets, is_free
from tallyhull.testsets import least_test_set
from tests.fibers import (
    ALONE, LISTED, WIDE, costs_for, first_by_looking, minus, stands_at, wrong_calls)
from tests.samples import (
    FLAT, GAPPED, SLOPED, TWISTED, columns_by_hand, image_by_hand, minors_divisor,
    rank_by_fractions, solved_by_fractions)
from tests.test_moves import COST, START
from tests.test_testsets import CUBIC, PLAIN

MOST = {1: 9, 2: 8, 3: 7, 4: 4}
RINGS = ((1, 1, -1, -1), (1, -1, 1, -1))
BAD_PLACES = [(0, 0), (1, 0), (0, 2, 1), (-1,), (4,), (0, 4), (-1, 0), (3, 3), (0, 1, 2, 3, 4),
              (10 ** 30,)]


def all_small(matrix):
    return product(range(MOST[len(matrix[0])] + 1), repeat=len(matrix[0]))


def firsts_by_hand(matrix, cost):
    """Which vectors with small entries are first."""
    return {vector: first_by_looking(matrix, cost, vector) == vector for vector in all_small(matrix)}


def corners_by_hand(matrix, cost):
    """[100], as it stands there."""
    first = firsts_by_hand(matrix, cost)
    found = []
    for vector, told in first.items():
        less = [minus(vector, tuple(int(k == j) for j in range(len(vector))))
                for k in range(len(vector)) if vector[k] > 0]
        if not told and all(first[other] for other in less):
            found.append(vector)
    return sorted(found)


def free_by_hand(matrix, cost):
    """[102], as it stands there."""
    first = firsts_by_hand(matrix, cost)
    many = len(matrix[0])
    return [places for size in range(many + 1) for places in combinations(range(many), size)
            if all(told for vector, told in first.items()
                   if not any(vector[k] for k in range(many) if k not in places))]


def boxes_with(matrix, cost, cell):
    """How many vectors, 0 at a cell, are first with whatever is added there."""
    found = corners(matrix, cost)
    most = [max([0] + [corner[k] for corner in found]) for k in range(len(matrix[0]))]
    ranges = [range(1 if k in cell else most[k] + 1) for k in range(len(matrix[0]))]
    return sum(not any(all(corner[k] <= u[k] for k in range(len(u)) if k not in cell)
                       for corner in found) for u in product(*ranges))


class Corners(unittest.TestCase):
    """[100]"""

    def test_against_the_words(self):
        for matrix in PLAIN:
            for cost in costs_for(matrix):
                found = corners(matrix, cost)
                self.assertIsInstance(found, list)
                self.assertEqual(found, corners_by_hand(matrix, cost), (matrix, cost))

    def test_first_vectors_have_no_corner_below_them(self):
        for matrix in PLAIN:
            for cost in costs_for(matrix)[:3]:
                found = corners(matrix, cost)
                for vector, told in firsts_by_hand(matrix, cost).items():
                    self.assertIs(not any(stands_at(corner, vector) for corner in found), told)

    def test_they_are_the_heads_of_the_least_test_set(self):
        for matrix in LISTED:
            for cost in costs_for(matrix):
                self.assertEqual(corners(matrix, cost),
                                 [head for head, _ in least_test_set(matrix, cost)])

    def test_by_hand(self):
        self.assertEqual(corners(TWISTED, COST), [(0, 0, 2, 0), (0, 1, 1, 0), (0, 2, 0, 0)])
        self.assertEqual(corners(TWISTED, CUBIC), [
            (0, 0, 2, 0), (0, 1, 1, 0), (1, 0, 1, 0), (2, 0, 0, 1)])
        self.assertEqual(corners(((2, 3),), (1, 1)), [(3, 0)])
        self.assertEqual(corners(((2, 3),), (2, 3)), [(3, 0)])
        self.assertEqual(corners(((2, 3),), (0, 1)), [(0, 2)])
        # With the cost of zeros the less tuple is first.
        self.assertEqual(corners(((2, 3),), (0, 0)), [(3, 0)])
        self.assertEqual(corners(FLAT, (0, 0)), [(2, 0)])
        self.assertEqual(corners(((1, 1, 1),), (0, 0, 0)), [(0, 1, 0), (1, 0, 0)])
        for matrix in ALONE:
            self.assertEqual(corners(matrix, (0,) * len(matrix[0])), [])


class FreeSets(unittest.TestCase):
    """[102]"""

    def test_against_the_words(self):
        for matrix in PLAIN:
            for cost in costs_for(matrix):
                wanted = free_by_hand(matrix, cost)
                found = free_sets(matrix, cost)
                self.assertIsInstance(found, list)
                self.assertEqual(found, wanted)
                many = len(matrix[0])
                for size in range(many + 1):
                    for places in combinations(range(many), size):
                        self.assertIs(is_free(matrix, cost, places), places in wanted)

    def test_cells_are_in_no_other_one(self):
        for matrix in LISTED:
            for cost in costs_for(matrix):
                every = free_sets(matrix, cost)
                found = cells(matrix, cost)
                self.assertIsInstance(found, list)
                self.assertEqual(found, sorted(
                    one for one in every
                    if not any(set(one) < set(other) for other in every)))
                columns = columns_by_hand(matrix)
                for cell in found:
                    self.assertEqual(len(cell), rank_of(matrix))
                    self.assertEqual(rank_by_fractions([columns[k] for k in cell]), len(cell))
                for places in every:
                    for k in places:
                        self.assertIn(tuple(j for j in places if j != k), every)

    def test_by_hand(self):
        self.assertEqual(free_sets(TWISTED, COST), [(), (0,), (3,), (0, 3)])
        self.assertEqual(cells(TWISTED, COST), [(0, 3)])
        self.assertEqual(free_sets(TWISTED, CUBIC), [
            (), (0,), (1,), (3,), (0, 1), (1, 3)])
        self.assertEqual(cells(TWISTED, CUBIC), [(0, 1), (1, 3)])
        self.assertEqual(free_sets(((2, 3),), (0, 0)), [(), (1,)])
        self.assertEqual(cells(((1, 1, 1),), (0, 0, 0)), [(2,)])
        self.assertEqual(free_sets(((1,),), (5,)), [(), (0,)])
        self.assertEqual(cells(SLOPED, (0, 0)), [(0, 1)])
        self.assertEqual(len(free_sets(((2, 0, 1), (0, 3, 1), (0, 0, 5)), (0, 0, 0))), 8)

    def test_the_empty_set_is_free(self):
        for matrix in LISTED:
            self.assertIs(is_free(matrix, (0,) * len(matrix[0]), ()), True)

    def test_columns_in_no_cell(self):
        # Neither b nor c of the columns a, b, c, d stands in a cell.
        self.assertEqual([k for k in range(4) if not any(k in cell for cell in cells(TWISTED, COST))],
                         [1, 2])
        self.assertIs(is_free(TWISTED, COST, (1,)), False)
        self.assertIs(is_free(TWISTED, COST, (0, 1, 2, 3)), False)
        self.assertIs(is_free(TWISTED, COST, (0, 3)), True)
        self.assertIs(is_free(TWISTED, COST, (0, 2)), False)

    def test_the_cones_of_the_cells_fill_the_cone(self):
        for matrix in (TWISTED, GAPPED, FLAT, SLOPED, ((1, 2, 3), (2, 4, 6), (0, 1, 5)),
                       ((1, 1, 1, 1), (0, 1, 0, 1), (0, 0, 1, 1)), ((5, -2, 1), (-1, 1, 0))):
            columns = columns_by_hand(matrix)
            for cost in costs_for(matrix):
                found = cells(matrix, cost)
                for vector in product(range(4), repeat=len(columns)):
                    side = image_by_hand(matrix, vector)
                    faces = set()
                    for cell in found:
                        shares = solved_by_fractions([columns[k] for k in cell], side)
                        if shares is not None and min(shares) >= 0:
                            faces.add(tuple(k for k, share in zip(cell, shares) if share))
                    # Cones of cells meet in common parts: so all tell the side by the same columns.
                    self.assertEqual(len(faces), 1)


class Weights(unittest.TestCase):
    """[103]"""

    def test_against_the_minors(self):
        for matrix in LISTED:
            columns = columns_by_hand(matrix)
            size = rank_by_fractions(columns)
            every = minors_divisor(columns, size)
            for places in combinations(range(len(columns)), size):
                chosen = [columns[k] for k in places]
                if rank_by_fractions(chosen) == size:
                    weight = cell_weight(matrix, places)
                    self.assertEqual(weight * every, minors_divisor(chosen, size))
                else:
                    with self.assertRaises(NoAnswer):
                        cell_weight(matrix, places)

    def test_as_many_boxes_as_the_weight(self):
        for matrix in LISTED:
            for cost in costs_for(matrix)[:3]:
                for cell in cells(matrix, cost):
                    self.assertEqual(boxes_with(matrix, cost, cell), cell_weight(matrix, cell))

    def test_by_hand(self):
        for matrix, places, weight in [
                (TWISTED, (0, 3), 3), (TWISTED, (0, 1), 1), (TWISTED, (0, 2), 2), (TWISTED, (1, 2), 1),
                (((2, 3),), (0,), 2), (((2, 3),), (1,), 3), (((4, 6),), (0,), 2), (((4, 6),), (1,), 3),
                (((-4, -6),), (1,), 3), (SLOPED, (0, 1), 1), (FLAT, (0,), 1), (FLAT, (1,), 2),
                (((0, 0), (2, 3)), (1,), 3), (((1, 2, 3), (2, 4, 6), (0, 1, 5)), (0, 2), 5),
                (((9,),), (0,), 1), (((1, 0, 2, 9), (0, 1, 0, 0), (0, 0, 9, 0)), (1, 2, 3), 9)]:
            with self.subTest(matrix=matrix, places=places):
                self.assertEqual(cell_weight(matrix, places), weight)

    def test_columns_that_are_dependent_or_too_few_or_too_many(self):
        for matrix, places in [
                (TWISTED, ()), (TWISTED, (2,)), (TWISTED, (0, 1, 2)), (TWISTED, (0, 1, 2, 3)),
                (((1, 2, 1, 2), (1, 2, 3, 6)), (0, 1)), (((3, 0, 3), (1, 2, 1)), (0, 2)),
                (FLAT, ()), (FLAT, (0, 1)), (((1,),), ()),
                (((1, 0, 1, 2), (0, 1, 1, 1), (1, 1, 2, 3)), (0, 1, 2))]:
            with self.subTest(matrix=matrix, places=places):
                with self.assertRaises(NoAnswer):
                    cell_weight(matrix, places)

    def test_a_great_graver_list_does_not_matter(self):
        self.assertEqual(cell_weight(WIDE, (0,)), 9)
        self.assertEqual(cell_weight(WIDE, (5,)), 4)


class Wrong(unittest.TestCase):
    """The errors, and their order"""

    def check_errors(self, function, good, wrongs):
        for arguments, error in wrong_calls(good, wrongs):
            with self.subTest(function.__name__, arguments=arguments):
                with self.assertRaises(error):
                    function(*arguments)

    def test_with_a_cost(self):
        for function in (corners, free_sets, cells):
            self.check_errors(function, (TWISTED, COST), START)
        places = [(2, some, BadNumber) for some in BAD_PLACES]
        self.check_errors(is_free, (TWISTED, COST, (0, 3)), START + places)

    def test_weights(self):
        start = [(0, ((1, 1, 1, 10), (0, 1, 2, 3)), NotMatrix), (0, RINGS, NotPointed)]
        places = [(1, some, BadNumber) for some in BAD_PLACES]
        self.check_errors(cell_weight, (TWISTED, (0, 3)), start + places + [(1, (0,), NoAnswer)])

    def test_too_large(self):
        zeros = (0,) * 6
        for function in (corners, free_sets, cells):
            self.check_errors(function, (WIDE, zeros), [
                (0, ((9, 8, 7, 6, 5, 10),), NotMatrix), (0, ((9, 8, 7, 6, 5, -4),), NotPointed),
                (1, (0,) * 5, NotCost)])
            with self.assertRaises(TooLarge):
                function(WIDE, zeros)
        # What is no index set comes behind it.
        for places in [(), (0,), (1, 0), (9,)]:
            with self.assertRaises(TooLarge):
                is_free(WIDE, zeros, places)

    def test_fresh_lists(self):
        for function in (corners, free_sets, cells):
            once = function(TWISTED, CUBIC)
            kept = list(once)
            once.clear()
            self.assertTrue(kept)
            self.assertEqual(function(TWISTED, CUBIC), kept)


if __name__ == "__main__":
    unittest.main()
