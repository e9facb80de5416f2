"""Promises [120], [122] to [126]: fraction optima, and papers that show them."""

import unittest
from fractions import Fraction
from functools import lru_cache
from random import Random

from tallyhull.cones import is_in_cone
from tallyhull.errors import NoAnswer, NotSide
from tallyhull.farkas import is_fraction_solution
from tallyhull.matrices import is_cost
from tallyhull.optima import fraction_optimum, is_optimum_paper, optimum_paper, posts_at
from tallyhull.posts import feet, idle_columns, posts, stays_below
from tests.fibers import LISTED, WIDE, costs_for, plus, solutions_by_hand, wrong_calls
from tests.samples import (
    FLAT, GAPPED, POINTED, SLOPED, TWISTED, bases_by_hand, columns_by_hand, dot, image_by_hand,
    sides_near, solved_by_fractions)
from tests.test_cheapest import NO_SIDES, some_sides
from tests.test_moves import START
from tests.test_posts import WITH_FIXED, as_fractions, as_pairs, posts_by_hand

PLAIN = [TWISTED, GAPPED, FLAT, SLOPED, ((2, 3),), ((-2, -4, -6),), ((3, 0, 3), (1, 2, 1)),
         ((1, 2, 1, 2), (1, 2, 3, 6)), ((5, -2, 1), (-1, 1, 0))] + WITH_FIXED


@lru_cache(maxsize=None)
def optimum_by_hand(matrix, cost, side):
    """[120]: some fraction solution with the least price has the columns of a base alone."""
    columns = columns_by_hand(matrix)
    found = []
    for base in bases_by_hand(matrix):
        shares = solved_by_fractions([columns[k] for k in base], side)
        if shares is not None and min(shares) >= 0:
            found.append(sum(cost[k] * share for k, share in zip(base, shares)))
    return min(found) if found else None


def as_pair(number):
    return number.numerator, number.denominator


def times(many, side):
    return tuple(many * entry for entry in side)


class Optima(unittest.TestCase):
    """[120], [122] and [124]"""

    def test_against_the_least_price(self):
        told = {True: 0, False: 0}
        for matrix in PLAIN:
            for cost in costs_for(matrix):
                for side in some_sides(matrix)[::2]:
                    wanted = optimum_by_hand(matrix, cost, side)
                    told[wanted is None] += 1
                    found = fraction_optimum(matrix, cost, side)
                    self.assertEqual(found, None if wanted is None else as_pair(Fraction(wanted)))
        self.assertGreater(min(told.values()), 100)

    def test_posts_that_tell_it(self):
        several = 0
        for matrix in PLAIN:
            columns = columns_by_hand(matrix)
            for cost in costs_for(matrix):
                rows = [as_fractions(row) for row in posts(matrix, cost)]
                for side in some_sides(matrix)[::3]:
                    if not is_in_cone(matrix, side):
                        with self.assertRaises(NoAnswer):
                            posts_at(matrix, cost, side)
                        continue
                    best = optimum_by_hand(matrix, cost, side)
                    found = posts_at(matrix, cost, side)
                    self.assertIsInstance(found, list)
                    self.assertEqual(found, [k for k, row in enumerate(rows) if dot(row, side) == best])
                    self.assertTrue(found)
                    several += len(found) > 1
                    # It is so exactly for the feet in whose cones the side lies.
                    for k, foot in enumerate(feet(matrix, cost)):
                        shares = [solved_by_fractions([columns[j] for j in base], side)
                                  for base in bases_by_hand(matrix) if set(base) <= set(foot)]
                        inside = any(share is not None and min(share) >= 0 for share in shares)
                        self.assertEqual(inside, k in found)
        self.assertGreater(several, 5)

    def test_never_greater_than_the_price_of_a_solution(self):
        for matrix in PLAIN:
            for cost in costs_for(matrix):
                for side in some_sides(matrix)[::5]:
                    for vector in solutions_by_hand(matrix, side):
                        found = Fraction(*fraction_optimum(matrix, cost, side))
                        self.assertLessEqual(found, dot(cost, vector))

    def test_multiples_and_sums_of_sides(self):
        source = Random(124)
        for matrix in LISTED:
            for cost in costs_for(matrix)[:4]:
                one, other = [image_by_hand(matrix, tuple(source.randint(0, 3) for _ in matrix[0]))
                              for _ in range(2)]
                first, second, both = [Fraction(*fraction_optimum(matrix, cost, side))
                                       for side in (one, other, plus(one, other))]
                self.assertLessEqual(both, first + second)
                for many in (2, 3, 7, 1000):
                    self.assertEqual(Fraction(*fraction_optimum(matrix, cost, times(many, one))),
                                     many * first)

    def test_by_hand(self):
        self.assertEqual(fraction_optimum(((2, 3),), (1, 1), (4,)), (4, 3))
        self.assertEqual(fraction_optimum(((2, 3),), (1, 1), (3,)), (1, 1))
        self.assertEqual(fraction_optimum(((2, 3),), (1, 1), (0,)), (0, 1))
        self.assertIsNone(fraction_optimum(((2, 3),), (1, 1), (-1,)))
        self.assertEqual(fraction_optimum(((2, 3),), (-1, -1), (1,)), (-1, 2))
        self.assertEqual(fraction_optimum(GAPPED, (0, 0, 3), (2, 4)), (3, 1))
        self.assertEqual(fraction_optimum(GAPPED, (0, 0, 3), (2, 1)), (0, 1))
        self.assertEqual(fraction_optimum(GAPPED, (0, 2, 3), (1, 2)), (2, 1))
        self.assertIsNone(fraction_optimum(GAPPED, (0, 2, 3), (1, 4)))
        self.assertEqual(posts_at(GAPPED, (0, 0, 3), (2, 2)), [0, 1])
        self.assertEqual(posts_at(GAPPED, (0, 0, 3), (2, 4)), [0])
        self.assertEqual(posts_at(GAPPED, (0, 0, 3), (2, 1)), [1])
        self.assertEqual(posts_at(GAPPED, (0, 0, 3), (0, 0)), [0, 1])
        self.assertEqual(fraction_optimum(FLAT, (1, 1), (3, 6)), (3, 2))
        self.assertIsNone(fraction_optimum(FLAT, (1, 1), (3, 7)))

    def test_great_sides(self):
        self.assertEqual(fraction_optimum(((2, 3),), (1, 1), (1000000,)), (1000000, 3))
        self.assertEqual(fraction_optimum(GAPPED, (0, 0, 3), (500000, 999999)), (1499997, 2))
        self.assertEqual(posts_at(GAPPED, (0, 0, 3), (1000000, 1000000)), [0, 1])
        paper = optimum_paper(GAPPED, (0, 0, 3), (500000, 999999))
        self.assertIs(is_optimum_paper(GAPPED, (0, 0, 3), (500000, 999999), paper), True)


class Papers(unittest.TestCase):
    """[123]"""

    def test_papers_are_right(self):
        for matrix in PLAIN:
            for cost in costs_for(matrix):
                for side in some_sides(matrix)[::4]:
                    paper = optimum_paper(matrix, cost, side)
                    if not is_in_cone(matrix, side):
                        self.assertIsNone(paper)
                        continue
                    self.assertIsInstance(paper, tuple)
                    numbers, row = paper
                    self.assertIs(is_fraction_solution(matrix, side, numbers), True)
                    self.assertIs(stays_below(matrix, cost, row), True)
                    best = optimum_by_hand(matrix, cost, side)
                    self.assertEqual(dot(cost, as_fractions(numbers)), best)
                    self.assertEqual(dot(as_fractions(row), side), best)
                    self.assertIs(is_optimum_paper(matrix, cost, side, paper), True)

    def test_other_papers(self):
        told = {True: 0, False: 0}
        for matrix in PLAIN:
            columns = columns_by_hand(matrix)
            for cost in costs_for(matrix):
                rows = posts(matrix, cost)
                for side in some_sides(matrix)[::9]:
                    for base in bases_by_hand(matrix):
                        shares = solved_by_fractions([columns[k] for k in base], side)
                        if shares is None:
                            continue
                        told_by = dict(zip(base, shares))
                        numbers = tuple(Fraction(told_by.get(k, 0)) for k in range(len(columns)))
                        for row in rows:
                            wanted = (min(numbers) >= 0
                                      and dot(cost, numbers) == dot(as_fractions(row), side))
                            told[wanted] += 1
                            self.assertIs(is_optimum_paper(
                                matrix, cost, side, (as_pairs(numbers), row)), wanted)
        self.assertGreater(min(told.values()), 100)

    def test_changed_papers(self):
        matrix, cost, side = GAPPED, (0, 2, 3), (1, 2)
        good = ((1, 3), (0, 1), (2, 3)), ((0, 1), (1, 1))
        self.assertIs(is_optimum_paper(matrix, cost, side, good), True)
        for paper in [
                (((1, 2), (0, 1), (1, 2)), good[1]), (((0, 1), (1, 2), (1, 2)), good[1]),
                (((1, 3), (0, 1), (4, 6)), good[1]), (((1, 3), (0, 2), (2, 3)), good[1]),
                (((-1, -3), (0, 1), (2, 3)), good[1]), (((1, 3), (0, 1), (-2, -3)), good[1]),
                (((1, 3), (2, 3)), good[1]), (good[0] + ((0, 1),), good[1]), ((), good[1]),
                (((1, 3), (0, 0), (2, 3)), good[1]), (((4, 3), (-1, 1), (2, 3)), good[1]),
                (((1,), (0, 1), (2, 3)), good[1]), (((1, 3), (), (2, 3)), good[1]),
                (good[0], ((0, 1), (2, 2))), (good[0], ((0, 1),)), (good[0], ()),
                (good[0], good[1] + ((0, 1),)), (good[0], ((0, 1), (2, 1))),
                (good[0], ((0, 1), (1, 2))), (good[0], ((-1, 1), (1, 1))), (good[0], ((1, 1), (1, 1))),
                (good[0], ((0, 1), (-1, -1))), (good[0], ((0, 1), (1, 0))), (good[0], ((0, 1), (1,))),
                (good[0],), good + ((),), ()]:
            with self.subTest(paper=paper):
                self.assertIs(is_optimum_paper(matrix, cost, side, paper), False)
        # A row that is no post shows the optimum of a side on the edge of the cone, too.
        self.assertIs(is_optimum_paper(
            matrix, cost, (1, 0), (((1, 1), (0, 1), (0, 1)), ((0, 1), (-5, 1)))), True)
        self.assertIs(is_optimum_paper(matrix, cost, (2, 4), good), False)
        self.assertIs(is_optimum_paper(matrix, (0, 2, 4), side, good), False)
        self.assertIs(is_optimum_paper(matrix, cost, (1, 4), good), False)


class Costs(unittest.TestCase):
    """[125] and [126]"""

    def test_idle_columns(self):
        some = 0
        for matrix in POINTED:
            for cost in costs_for(matrix):
                idle = idle_columns(matrix, cost)
                for k, column in enumerate(columns_by_hand(matrix)):
                    for many in (1, 2, 5):
                        found = Fraction(*fraction_optimum(matrix, cost, times(many, column)))
                        self.assertEqual(found < many * cost[k], k in idle)
                kept = [k for k in range(len(cost)) if k not in idle]
                some += bool(idle)
                less = tuple(tuple(row[k] for k in kept) for row in matrix)
                for side in some_sides(matrix)[::20]:
                    self.assertEqual(fraction_optimum(less, tuple(cost[k] for k in kept), side),
                                     fraction_optimum(matrix, cost, side))
        self.assertGreater(some, 20)

    def test_a_row_times_the_matrix(self):
        for matrix in PLAIN:
            for row in sides_near(matrix, 2):
                cost = tuple(dot(row, column) for column in columns_by_hand(matrix))
                self.assertEqual(feet(matrix, cost), [tuple(range(len(cost)))])
                for side in some_sides(matrix)[::30]:
                    if is_in_cone(matrix, side):
                        self.assertEqual(fraction_optimum(matrix, cost, side), (dot(row, side), 1))
                        self.assertEqual(posts_at(matrix, cost, side), [0])

    def test_a_row_added_to_a_cost(self):
        source = Random(126)
        for matrix in PLAIN:
            for cost in costs_for(matrix)[:4]:
                row = tuple(source.randint(-2, 2) for _ in matrix)
                other = plus(cost, tuple(dot(row, column) for column in columns_by_hand(matrix)))
                if not is_cost(matrix, other):
                    continue
                self.assertEqual(sorted(feet(matrix, other)), sorted(feet(matrix, cost)))
                for side in some_sides(matrix)[::10]:
                    if is_in_cone(matrix, side):
                        found = Fraction(*fraction_optimum(matrix, other, side))
                        self.assertEqual(found - Fraction(*fraction_optimum(matrix, cost, side)),
                                         dot(row, side))

    def test_posts_by_hand_agree(self):
        for matrix in PLAIN:
            for cost in costs_for(matrix):
                rows = posts_by_hand(matrix, cost)
                for side in some_sides(matrix)[::10]:
                    if is_in_cone(matrix, side):
                        self.assertEqual(Fraction(*fraction_optimum(matrix, cost, side)),
                                         max(dot(row, side) for row in rows))


class Wrong(unittest.TestCase):
    """The errors, and their order"""

    def check_errors(self, function, good, wrongs):
        for arguments, error in wrong_calls(good, wrongs):
            with self.subTest(function.__name__, arguments=arguments):
                with self.assertRaises(error):
                    function(*arguments)

    def test_errors(self):
        wrongs = START + [(2, side, NotSide) for side in NO_SIDES]
        for function in (fraction_optimum, optimum_paper):
            self.check_errors(function, (TWISTED, (0, 1, 1, 0), (3, 4)), wrongs)
        self.check_errors(posts_at, (TWISTED, (0, 1, 1, 0), (3, 4)), wrongs + [(2, (1, 4), NoAnswer)])
        for paper in [((), ()), (), (((0, 1),), ((0, 1),))]:
            self.check_errors(is_optimum_paper, (TWISTED, (0, 1, 1, 0), (3, 4), paper), wrongs)

    def test_a_great_graver_list_does_not_matter(self):
        self.assertEqual(fraction_optimum(WIDE, (1, 1, 1, 1, 1, 1), (100,)), (100, 9))
        paper = optimum_paper(WIDE, (1, 1, 1, 1, 1, 1), (100,))
        self.assertIs(is_optimum_paper(WIDE, (1, 1, 1, 1, 1, 1), (100,), paper), True)

    def test_fresh_lists(self):
        once = posts_at(GAPPED, (0, 0, 3), (2, 2))
        once.clear()
        self.assertEqual(posts_at(GAPPED, (0, 0, 3), (2, 2)), [0, 1])


if __name__ == "__main__":
    unittest.main()
