"""Promises [120], [121], [125] and [127]: posts, their feet, idle columns."""

import unittest
from fractions import Fraction
from random import Random

from tallyhull.cones import fixed_places
from tallyhull.posts import feet, idle_columns, posts, stays_below
from tests.fibers import ALONE, LISTED, WIDE, costs_for, wrong_calls
from tests.samples import (
    FLAT, GAPPED, POINTED, SLOPED, TWISTED, all_rows, bases_by_hand, columns_by_hand, dot,
    first_by_hand, image_by_hand, rank_by_fractions, solved_by_fractions)
from tests.test_moves import START

WITH_FIXED = [FLAT, ((0, 0), (2, 3)), ((1, 2, 3), (0, 0, 0)), ((0, 0), (0, 0), (1, 3)),
              ((1, 2), (-1, -2), (3, 6)), ((1, 2, 3), (2, 4, 6), (0, 1, 5)), ((1,), (0,), (-4,)),
              ((1, 1, 1, 1), (0, 1, 2, 3), (1, 2, 3, 4)), ((0, 1, 1), (0, 1, 1), (1, 0, 2)),
              ((1, 0, 2), (2, 0, 4), (0, 1, 0)), ((2, 4, 6), (3, 6, 9))]


def as_fractions(row):
    return tuple(Fraction(*pair) for pair in row)


def as_pairs(row):
    return tuple((share.numerator, share.denominator) for share in row)


def is_below_by_hand(matrix, cost, row):
    return all(dot(row, column) <= entry for column, entry in zip(columns_by_hand(matrix), cost))


def foot_by_hand(matrix, cost, row):
    return tuple(k for k, column in enumerate(columns_by_hand(matrix)) if dot(row, column) == cost[k])


def posts_by_hand(matrix, cost):
    """[121]: for each base the row that is the cost there; as many unknown entries as columns."""
    fixed = fixed_places(matrix)
    places = [i for i in range(len(matrix)) if i not in fixed]
    found = set()
    for base in bases_by_hand(matrix):
        shares = solved_by_fractions([tuple(matrix[i][k] for k in base) for i in places],
                                     tuple(cost[k] for k in base))
        told = dict(zip(places, shares))
        row = tuple(told.get(i, Fraction(0)) for i in range(len(matrix)))
        if is_below_by_hand(matrix, cost, row):
            found.add(row)
    return sorted(found)


class Posts(unittest.TestCase):
    """[121]"""

    def test_against_the_words(self):
        many = set()
        for matrix in POINTED + WITH_FIXED + [WIDE]:
            rank = rank_by_fractions(columns_by_hand(matrix))
            for cost in costs_for(matrix):
                found = posts(matrix, cost)
                self.assertIsInstance(found, list)
                rows = [as_fractions(row) for row in found]
                self.assertEqual(rows, posts_by_hand(matrix, cost))
                self.assertEqual(rows, sorted(set(rows)))
                self.assertTrue(rows)
                for row, pairs, foot in zip(rows, found, feet(matrix, cost)):
                    self.assertEqual(pairs, as_pairs(row))
                    self.assertTrue(all(row[i] == 0 for i in fixed_places(matrix)))
                    self.assertTrue(is_below_by_hand(matrix, cost, row))
                    self.assertEqual(foot, foot_by_hand(matrix, cost, row))
                    columns = columns_by_hand(matrix)
                    self.assertEqual(rank_by_fractions([columns[k] for k in foot]), rank)
                many.add(min(3, len(found)))
        self.assertEqual(many, {1, 2, 3})

    def test_there_are_no_others(self):
        # Rows of small halves and thirds, with 0 at the fixed places, are posts or are none.
        for matrix in [GAPPED, FLAT, SLOPED, ((2, 3),), ((1, 2, 3), (2, 4, 6))]:
            rank = rank_by_fractions(columns_by_hand(matrix))
            columns = columns_by_hand(matrix)
            for cost in costs_for(matrix):
                found = [as_fractions(row) for row in posts(matrix, cost)]
                for entries in all_rows(len(matrix), 9):
                    row = tuple(Fraction(entry, 6) for entry in entries)
                    if any(row[i] for i in fixed_places(matrix)):
                        continue
                    foot = foot_by_hand(matrix, cost, row)
                    told = is_below_by_hand(matrix, cost, row) and foot and rank_by_fractions(
                        [columns[k] for k in foot]) == rank
                    self.assertEqual(row in found, bool(told))

    def test_dependent_rows(self):
        self.assertEqual(posts(FLAT, (1, 1)), [((0, 1), (1, 4))])
        self.assertEqual(feet(FLAT, (1, 1)), [(1,)])
        self.assertEqual(posts(FLAT, (1, 2)), [((0, 1), (1, 2))])
        self.assertEqual(feet(FLAT, (1, 2)), [(0, 1)])
        self.assertEqual(posts(((1, 2, 3), (2, 4, 6), (0, 1, 5)), (0, 0, 0)), [((0, 1),) * 3])
        self.assertEqual(posts(((0, 0), (2, 3)), (-1, -1)), [((0, 1), (-1, 2))])

    def test_by_hand(self):
        self.assertEqual(posts(((2, 3),), (1, 1)), [((1, 3),)])
        self.assertEqual(posts(((2, 3),), (-1, -1)), [((-1, 2),)])
        self.assertEqual(posts(((-2, -3),), (1, 1)), [((-1, 3),)])
        self.assertEqual(posts(((1,),), (50,)), [((50, 1),)])
        self.assertEqual(posts(TWISTED, (0, 1, 1, 0)), [((0, 1), (0, 1))])
        self.assertEqual(feet(TWISTED, (0, 1, 1, 0)), [(0, 3)])
        self.assertEqual(posts(TWISTED, (0, -1, -1, 0)), [
            ((-3, 1), (1, 1)), ((-1, 1), (0, 1)), ((0, 1), (-1, 1))])
        self.assertEqual(feet(TWISTED, (0, -1, -1, 0)), [(2, 3), (1, 2), (0, 1)])
        for matrix in ALONE:
            many = len(matrix[0])
            self.assertEqual(feet(matrix, (7,) * many), [tuple(range(many))])

    def test_the_order_is_that_of_the_values(self):
        # 1/3 is less than 1/2, though 3 is greater than 2.
        matrix, cost = ((3, 0, 2), (1, 3, 0)), (1, 0, 1)
        self.assertEqual(posts(matrix, cost), [((1, 3), (0, 1)), ((1, 2), (-1, 2))])
        self.assertEqual(feet(matrix, cost), [(0, 1), (0, 2)])


class Below(unittest.TestCase):
    """[120]"""

    def test_rows_of_fractions(self):
        told = {True: 0, False: 0}
        source = Random(120)
        for matrix in POINTED + WITH_FIXED:
            for cost in costs_for(matrix):
                for _ in range(8):
                    row = tuple(Fraction(source.randint(-9, 6), source.randint(1, 4)) for _ in matrix)
                    wanted = is_below_by_hand(matrix, cost, row)
                    self.assertIs(stays_below(matrix, cost, as_pairs(row)), wanted)
                    told[wanted] += 1
                for row in posts(matrix, cost):
                    self.assertIs(stays_below(matrix, cost, row), True)
        self.assertGreater(min(told.values()), 100)

    def test_no_side_has_less_than_such_a_row_tells(self):
        # y b is not greater than c x for a fraction solution x.
        for matrix in [GAPPED, TWISTED, FLAT, ((2, 3),), ((3, 0, 3), (1, 2, 1))]:
            for cost in costs_for(matrix):
                for vector in [(1,) * len(cost), tuple(range(len(cost))), (2,) + (0,) * (len(cost) - 1)]:
                    side = image_by_hand(matrix, vector)
                    base, shares = first_by_hand(matrix, side)
                    price = sum(cost[k] * share for k, share in zip(base, shares))
                    for row in posts(matrix, cost):
                        self.assertLessEqual(dot(as_fractions(row), side), price)

    def test_what_is_no_row(self):
        good = ((0, 1), (1, 1))
        self.assertIs(stays_below(GAPPED, (0, 2, 3), good), True)
        self.assertIs(stays_below(GAPPED, (0, 2, 3), ((-1, 2), (1, 2))), True)
        self.assertIs(stays_below(GAPPED, (0, 2, 3), ((1, 2), (1, 2))), False)
        for row in [(), ((0, 1),), good + ((0, 1),), ((0, 2), (1, 1)), ((0, 1), (2, 2)),
                    ((0, -1), (1, 1)), ((0, 1), (-1, -1)), ((0, 0), (1, 1)), ((0, 1), (1, 0)),
                    ((0,), (1, 1)), ((0, 1), ()), ((0, 1, 1), (1, 1)), ((-4, 2), (0, 1)),
                    ((-3, -3), (0, 1)), ((-1, 0), (0, 1))]:
            with self.subTest(row=row):
                self.assertIs(stays_below(GAPPED, (0, 2, 3), row), False)

    def test_great_fractions(self):
        great = 10 ** 30
        self.assertIs(stays_below(((1, 2),), (0, 1), ((-1, great),)), True)
        self.assertIs(stays_below(((1, 2),), (0, 1), ((1, great),)), False)
        self.assertIs(stays_below(((1, 2),), (1, 1), ((great, 2 * great + 1),)), True)
        self.assertIs(stays_below(((1, 2),), (1, 1), ((great + 1, 2 * great + 1),)), False)


class Idle(unittest.TestCase):
    """[125]"""

    def test_columns_in_no_foot(self):
        some = 0
        for matrix in POINTED + WITH_FIXED:
            for cost in costs_for(matrix):
                found = idle_columns(matrix, cost)
                self.assertIsInstance(found, list)
                every = {k for foot in feet(matrix, cost) for k in foot}
                self.assertEqual(found, [k for k in range(len(cost)) if k not in every])
                some += bool(found)
        self.assertGreater(some, 20)

    def test_they_may_be_left_out(self):
        for matrix in LISTED:
            for cost in costs_for(matrix):
                idle = idle_columns(matrix, cost)
                kept = [k for k in range(len(cost)) if k not in idle]
                less = tuple(tuple(row[k] for k in kept) for row in matrix)
                self.assertEqual(posts(less, tuple(cost[k] for k in kept)), posts(matrix, cost))

    def test_an_idle_column_costs_less_by_others(self):
        for matrix in LISTED:
            columns = columns_by_hand(matrix)
            for cost in costs_for(matrix):
                rows = [as_fractions(row) for row in posts(matrix, cost)]
                idle = idle_columns(matrix, cost)
                for k, column in enumerate(columns):
                    best = max(dot(row, column) for row in rows)
                    self.assertEqual(best < cost[k], k in idle)

    def test_none(self):
        self.assertEqual(idle_columns(GAPPED, (0, 0, 3)), [])
        self.assertEqual(idle_columns(TWISTED, (0, 0, 0, 0)), [])
        self.assertEqual(idle_columns(TWISTED, (0, 1, 1, 0)), [1, 2])
        self.assertEqual(idle_columns(((2, 3),), (1, 1)), [0])
        self.assertEqual(idle_columns(((1,),), (-50,)), [])


class Example(unittest.TestCase):
    """[127]"""

    def test_the_example(self):
        self.assertEqual(posts(GAPPED, (0, 2, 3)), [((0, 1), (1, 1))])
        self.assertEqual(feet(GAPPED, (0, 2, 3)), [(0, 2)])
        self.assertEqual(idle_columns(GAPPED, (0, 2, 3)), [1])
        self.assertEqual(posts(GAPPED, (0, 0, 3)), [((-3, 2), (3, 2)), ((0, 1), (0, 1))])
        self.assertEqual(feet(GAPPED, (0, 0, 3)), [(1, 2), (0, 1)])


class Wrong(unittest.TestCase):
    """The errors, and their order"""

    def test_errors(self):
        for function in (posts, feet, idle_columns):
            for arguments, error in wrong_calls((TWISTED, (0, 1, 1, 0)), START):
                with self.subTest(function.__name__, arguments=arguments):
                    with self.assertRaises(error):
                        function(*arguments)
        for row in [((0, 1), (0, 1)), (), ((0, 0),)]:
            for arguments, error in wrong_calls((TWISTED, (0, 1, 1, 0), row), START):
                with self.assertRaises(error):
                    stays_below(*arguments)

    def test_a_great_graver_list_does_not_matter(self):
        self.assertEqual(posts(WIDE, (0,) * 6), [((0, 1),)])
        self.assertEqual(feet(WIDE, (0,) * 6), [(0, 1, 2, 3, 4, 5)])

    def test_fresh_lists(self):
        for function in (posts, feet, idle_columns):
            once = function(GAPPED, (0, 2, 3))
            kept = list(once)
            once.clear()
            self.assertTrue(kept)
            self.assertEqual(function(GAPPED, (0, 2, 3)), kept)


if __name__ == "__main__":
    unittest.main()
