"""Promises [230] to [235]: rows of sides."""

import unittest
from functools import lru_cache
from math import lcm
from random import Random

from tallyhull.boxes import boxes, vector_in
from tallyhull.cheapest import optimum
from tallyhull.cones import is_in_cone
from tallyhull.errors import BadNumber, NotCost, NotMatrix, NotPointed, NotSide, TooLarge
from tallyhull.matrices import is_pointed, is_side
from tallyhull.optima import fraction_optimum
from tallyhull.siderows import row_law, row_values, solved_times, value_by_law
from tallyhull.staircases import cell_weight, cells
from tests.fibers import ALONE, LISTED, WIDE, check_errors, costs_for, key_of, solutions_by_hand
from tests.samples import (
    FLAT, GAPPED, SLOPED, TWISTED, columns_by_hand, dot, image_by_hand, mixed, rank_by_fractions)
from tests.test_cheapest import NO_SIDES
from tests.test_holes import is_in_lattice_by_hand
from tests.test_moves import COST, START
from tests.test_testsets import PLAIN

COINS = ((2, 3),)
NO_STEPS = [(), (1,), (1, 2, 3), (10, 0), (0, -10), (10 ** 30, 0)]
# Matrices, costs and steps with these period bounds; of the first two by the step alone.
BOUNDS = [
    (2000, ((-8, 8, -9), (-8, -8, 7), (-5, 8, 7)), (0, 0, 0), (6, 1, -1)),
    (2001, ((7, -9, 4), (9, 6, 9), (8, 2, -9)), (0, 0, 0), (-4, 2, -9)),
    (1995, ((1, 7, 7), (9, 1, 6)), (-2, -2, -3), (8, 9)),
    (2040, ((2, 8, 7, 1), (4, 3, 9, 7)), (3, 5, 5, 4), (7, 8)),
    (1980, ((0, -2, 9, 5, 3), (9, 2, 2, 6, 2)), (-3, 1, -2, -5, 3), (4, 1)),
    (2016, ((9, 8, 3, 8), (6, 3, 3, -1)), (-5, -5, 1, 0), (2, 5)),
    (6, ((8, 0, 0), (0, 9, 0), (0, 0, 7)), (0, 0, 0), (4, 3, 7)),
    (1995, ((1, 7, 7), (9, 1, 6), (0, 0, 0)), (-2, -2, -3), (0, 0, 1))]


def along(start, step, k):
    return tuple(a + k * b for a, b in zip(start, step))


@lru_cache(maxsize=None)
def value_by_hand(matrix, cost, side):
    every = solutions_by_hand(matrix, side)
    return min(dot(cost, x) for x in every) if every else None


def least_multiple_by_hand(matrix, step):
    columns = columns_by_hand(matrix)
    if rank_by_fractions(columns + [step]) > rank_by_fractions(columns):
        return 1
    return next(m for m in range(1, 3000) if is_in_lattice_by_hand(
        matrix, tuple(m * entry for entry in step)))


def bound_by_hand(matrix, cost, step):
    """[231], as it stands there."""
    weights = [cell_weight(matrix, cell) for cell in cells(matrix, cost)]
    return least_multiple_by_hand(matrix, step) * lcm(*weights)


def holds_from(values, begin, period):
    """Whether from an index on all values, each one period behind another, grow alike, or are None."""
    for at in range(begin, min(begin + period, len(values))):
        told = values[at::period]
        if None in told:
            if any(value is not None for value in told):
                return False
        elif any(a - b != told[1] - told[0] for a, b in zip(told[1:], told)):
            return False
    return True


def law_by_hand(values, bound):
    """[232], as it stands there, for values that go on as the last ones do."""
    for period in range(1, bound + 1):
        if holds_from(values, len(values) - 4 * bound, period):
            begin = len(values) - 4 * bound
            while begin > 0 and holds_from(values, begin - 1, period):
                begin -= 1
            told = values[begin:begin + 2 * period]
            return begin, period, tuple(
                None if one is None else (one, other - one)
                for one, other in zip(told, told[period:]))
    raise ValueError(bound)


def some_rows(matrix, seed):
    """Starts and steps: columns, sums of them, 0, steps out of the cone and of the lattice."""
    source = Random(seed)
    columns = columns_by_hand(matrix)
    height = len(matrix)
    zeros = (0,) * height
    near = [tuple(source.randint(-3, 4) for _ in range(height)) for _ in range(3)]
    reached = image_by_hand(matrix, tuple(source.randint(0, 2) for _ in columns))
    turned = tuple(-entry for entry in columns[-1])
    steps = [columns[0], zeros, tuple(source.randint(-2, 3) for _ in range(height)), turned,
             (1,) * height]
    total = tuple(map(sum, zip(*columns)))
    if max(map(abs, total)) < 10:
        steps.append(total)
    return [(start, step) for start in near + [reached, zeros] for step in steps]


def answered(function, *arguments):
    """What a function returns, or None for TooLarge."""
    try:
        return function(*arguments)
    except TooLarge:
        return None


class Values(unittest.TestCase):
    """[230]"""

    def test_against_all_solutions(self):
        some = {True: 0, False: 0}
        for matrix in PLAIN:
            for cost in costs_for(matrix)[1:4]:
                for start, step in some_rows(matrix, 230):
                    n = 8 if len(matrix[0]) < 4 else 4
                    found = row_values(matrix, cost, start, step, n)
                    self.assertIsInstance(found, list)
                    wanted = [value_by_hand(matrix, cost, along(start, step, k)) for k in range(n + 1)]
                    self.assertEqual(found, wanted, (matrix, cost, start, step))
                    for value in wanted:
                        some[value is None] += 1
        self.assertGreater(min(some.values()), 1000)

    def test_far_on_against_optima(self):
        for matrix in LISTED[::3]:
            for cost in costs_for(matrix)[2:4]:
                for start, step in some_rows(matrix, 231)[::3]:
                    found = answered(row_values, matrix, cost, start, step, 1000)
                    for k in (0, 1, 7, 99, 500, 998, 1000):
                        if found is not None:
                            self.assertEqual(found[k], optimum(matrix, cost, along(start, step, k)))

    def test_n(self):
        self.assertEqual(row_values(COINS, (1, 1), (0,), (1,), 0), [0])
        self.assertEqual(len(row_values(COINS, (1, 1), (0,), (1,), 1000)), 1001)
        for n in (-1, 1001, 10 ** 30, -10 ** 30):
            with self.assertRaises(BadNumber):
                row_values(COINS, (1, 1), (0,), (1,), n)

    def test_sides_beyond_the_limit(self):
        # Sides are wanted of the start alone.
        self.assertEqual(row_values(COINS, (1, 1), (999999,), (9,), 2), [333333, 333336, 333339])
        self.assertEqual(row_values(((1, 1),), (2, 3), (999999,), (9,), 1)[1], 2 * 1000008)
        self.assertFalse(is_side(COINS, (1000008,)))


class Laws(unittest.TestCase):
    """[231] to [233]"""

    def check_law(self, matrix, cost, start, step, bound):
        begin, period, entries = row_law(matrix, cost, start, step)
        # The row ahead of its period, and four times the bound.
        values = row_values(matrix, cost, start, step, min(1000, begin + 4 * bound + 4))
        if len(values) > begin + 4 * bound + 3:
            self.assertEqual((begin, period, entries), law_by_hand(values, bound),
                             (matrix, cost, start, step))
        self.assertEqual(bound % period, 0)
        self.assertEqual(len(entries), period)
        for k in range(begin, len(values)):
            self.assertEqual(value_by_law((begin, period, entries), k), values[k])
        growths = {entry[1] for entry in entries if entry is not None}
        self.assertLessEqual(len(growths), 1)
        if growths:
            # [233]
            self.assertIs(is_in_cone(matrix, step), True)
            above, below = fraction_optimum(matrix, cost, step)
            self.assertEqual(growths.pop() * below, period * above)
        return begin, period, entries

    def test_against_the_words(self):
        periods = set()
        begins = set()
        gaps = 0
        for matrix in PLAIN + [SLOPED, ((2, 4),), ((6, 4, 8),), ((2, 0, 2), (0, 3, 3))]:
            for cost in costs_for(matrix)[1:4]:
                for start, step in some_rows(matrix, 232):
                    bound = bound_by_hand(matrix, cost, step)
                    begin, period, entries = self.check_law(matrix, cost, start, step, bound)
                    periods.add(period)
                    begins.add(begin)
                    gaps += None in entries and set(entries) != {None}
        self.assertGreater(len(periods), 4)
        self.assertGreater(len(begins), 3)
        self.assertGreater(gaps, 20)

    def test_other_matrices(self):
        source = Random(233)
        done = 0
        begins = set()
        for matrix in mixed(233, 200, -1, 4):
            if is_pointed(matrix):
                cost = tuple(source.randint(-5, 5) for _ in matrix[0])
                start, step = source.choice(some_rows(matrix, source.randint(0, 99)))
                start = tuple(entry - source.randint(0, 20) for entry in start)
                bound = answered(bound_by_hand, matrix, cost, step)
                if bound and bound < 200 and answered(row_law, matrix, cost, start, step):
                    begins.add(self.check_law(matrix, cost, start, step, bound)[0])
                    done += 1
        self.assertGreater(done, 80)
        self.assertGreater(len(begins), 8)

    def test_by_hand(self):
        for matrix, cost, start, step, told in [
                (COINS, (1, 1), (0,), (1,), (2, 3, ((1, 1), (1, 1), (2, 1)))),
                (COINS, (1, 1), (0,), (3,), (0, 1, ((0, 1),))),
                (COINS, (1, 1), (1,), (3,), (1, 1, ((2, 1),))),
                (COINS, (1, 1), (-3,), (3,), (1, 1, ((0, 1),))),
                (COINS, (1, 1), (5,), (0,), (0, 1, ((2, 0),))), (COINS, (1, 1), (1,), (0,), (0, 1, (None,))),
                (COINS, (1, 1), (5,), (-1,), (6, 1, (None,))), (COINS, (1, 1), (-1,), (-1,), (0, 1, (None,))),
                (COINS, (0, 0), (0,), (1,), (2, 1, ((0, 0),))), (COINS, (2, 3), (0,), (1,), (2, 1, ((2, 1),))),
                (((2, 4),), (1, 1), (0,), (1,), (0, 4, ((0, 1), None, (1, 1), None))),
                (((2, 4),), (1, 2), (1,), (1,), (0, 2, (None, (1, 1)))), (((2, 4),), (1, 2), (1,), (2,), (0, 1, (None,))),
                (((2, 4),), (0, 0), (0,), (3,), (0, 2, ((0, 0), None))), (((1,),), (-7,), (0,), (9,), (0, 1, ((0, -63),))),
                (FLAT, (1, 1), (0, 0), (1, 2), (0, 2, ((0, 1), (1, 1)))), (FLAT, (1, 1), (0, 1), (1, 2), (0, 1, (None,))),
                (FLAT, (1, 1), (2, 2), (0, 1), (3, 1, (None,))), (FLAT, (1, 1), (2, 2), (1, 1), (0, 1, (None,))),
                (GAPPED, (0, 0, 0), (1, 2), (1, 3), (0, 1, (None,))), (GAPPED, (0, 0, 1), (1, 2), (1, 0), (1, 1, ((0, 0),))),
                (SLOPED, (1, 1), (0, 0), (1, 0), (1, 1, (None,))), (SLOPED, (1, 1), (0, 0), (1, 1), (0, 6, ((0, 2),) + (None,) * 5))]:
            with self.subTest(matrix=matrix, cost=cost, start=start, step=step):
                self.assertEqual(row_law(matrix, cost, start, step), told)

    def test_two_sides_and_none(self):
        # One time alone: the row crosses the cone at a point.
        law = row_law(((1,), (0,)), (3,), (2, 5), (1, -1))
        self.assertEqual(law, (6, 1, (None,)))
        self.assertEqual(row_values(((1,), (0,)), (3,), (2, 5), (1, -1), 6),
                         [None] * 5 + [21, None])
        self.assertEqual(solved_times(((1,), (0,)), (3,), (2, 5), (1, -1)), [5])
        self.assertEqual(solved_times(((1,), (0,)), (3,), (2, 5), (1, 1)), [])
        self.assertEqual(solved_times(((1,), (0,)), (3,), (2, 5), (1, -2)), [])

    def test_long_periods(self):
        matrix, cost = ((1, 7, 7), (9, 1, 6)), (-2, -2, -3)
        law = row_law(matrix, cost, (3, 5), (8, 9))
        begin, period, entries = law
        self.assertEqual(1995 % period, 0)
        for k in (begin, begin + 1, begin + period - 1, begin + period, 100000):
            side = (3 + 8 * k, 5 + 9 * k)
            if is_side(matrix, side):
                self.assertEqual(value_by_law(law, k), optimum(matrix, cost, side))


class Rules(unittest.TestCase):
    """[232], as value_by_law tells it"""

    def test_values(self):
        rule = (2, 3, ((1, 1), None, (2, -5)))
        for k, value in [(2, 1), (3, None), (4, 2), (5, 2), (6, None), (7, -3), (8, 3), (300, None), (301, -493),
                         (2 + 3 * 10 ** 40, 1 + 10 ** 40), (4 + 3 * 10 ** 40, 2 - 5 * 10 ** 40),
                         (3 + 3 * 10 ** 40, None)]:
            self.assertEqual(value_by_law(rule, k), value)
        self.assertEqual(value_by_law((0, 1, ((7, 0),)), 0), 7)
        self.assertEqual(value_by_law((10 ** 30, 1, ((7, 2),)), 10 ** 30 + 5), 17)
        self.assertIsNone(value_by_law((0, 1, (None,)), 10 ** 30))

    def test_what_is_no_rule(self):
        good = ((1, 1), None)
        for rule, k in [((-1, 2, good), 5), ((0, 0, ()), 5), ((0, -1, ()), 5), ((0, 2, good[:1]), 5),
                        ((0, 2, good + good), 5), ((0, 2, ()), 5), ((0, 1, ()), 0), ((3, 2, good), 2),
                        ((3, 2, good), -1), ((0, 2, good), -1), ((-5, 2, good), -5), ((0, -2, good), 5),
                        ((0, 3, good), 0), ((10 ** 30, 2, good), 10 ** 30 - 1), ((0, 10 ** 30, good), 4)]:
            with self.subTest(rule=rule, k=k):
                with self.assertRaises(BadNumber):
                    value_by_law(rule, k)


class Times(unittest.TestCase):
    """[234]"""

    def test_against_values(self):
        kinds = set()
        for matrix in PLAIN + ALONE:
            for cost in costs_for(matrix)[:2]:
                for start, step in some_rows(matrix, 234)[1::2]:
                    found = solved_times(matrix, cost, start, step)
                    begin, _, entries = row_law(matrix, cost, start, step)
                    self.assertEqual(found is None, any(entry is not None for entry in entries))
                    if found is not None:
                        values = row_values(matrix, cost, start, step, 100)
                        self.assertLess(begin, 100)
                        self.assertEqual(found, [k for k in range(101) if values[k] is not None])
                        # The law begins behind the last one.
                        self.assertEqual(begin, found[-1] + 1 if found else 0)
                    kinds.add(found if found is None else min(len(found), 2))
        self.assertEqual(kinds, {None, 0, 1, 2})

    def test_the_cost_does_not_matter(self):
        for matrix in PLAIN:
            for start, step in some_rows(matrix, 235):
                told = [solved_times(matrix, cost, start, step) for cost in costs_for(matrix)]
                self.assertEqual(told, told[:1] * len(told))

    def test_by_hand(self):
        for matrix, start, step, told in [
                (COINS, (5,), (-1,), [0, 1, 2, 3, 5]), (COINS, (5,), (-2,), [0, 1]), (COINS, (7,), (-3,), [0, 1]),
                (COINS, (-1,), (-1,), []), (COINS, (1,), (0,), []), (COINS, (5,), (0,), None), (COINS, (0,), (1,), None),
                (((2, 4),), (1,), (2,), []), (((2, 4),), (5,), (-1,), [1, 3, 5]), (GAPPED, (1, 2), (1, 3), []),
                (GAPPED, (3, 0), (0, 1), [0, 1, 2, 3, 4, 5, 6, 7, 9]), (TWISTED, (3, 0), (0, 1), list(range(10))),
                (((1,),), (2999,), (-1,), list(range(3000)))]:
            with self.subTest(matrix=matrix, start=start, step=step):
                found = solved_times(matrix, (1,) * len(matrix[0]), start, step)
                self.assertEqual(found, told)


class Limits(unittest.TestCase):
    """The limits of the interface"""

    FUNCTIONS = [(row_values, (5,)), (row_law, ()), (solved_times, ())]

    def check_limit(self, matrix, cost, start, step, is_large):
        for function, more in self.FUNCTIONS:
            with self.subTest(function.__name__, matrix=matrix, start=start, step=step):
                if is_large:
                    with self.assertRaises(TooLarge):
                        function(matrix, cost, start, step, *more)
                else:
                    function(matrix, cost, start, step, *more)

    def test_the_period_bound(self):
        for bound, matrix, cost, step in BOUNDS:
            self.assertEqual(bound_by_hand(matrix, cost, step), bound)
            self.check_limit(matrix, cost, (0,) * len(matrix), step, bound > 2000)

    def test_finitely_many_times(self):
        one = ((1,),)
        self.check_limit(one, (1,), (2999,), (-1,), False)
        self.check_limit(one, (1,), (3000,), (-1,), True)
        self.check_limit(one, (1,), (5998,), (-2,), False)
        self.check_limit(one, (1,), (6001,), (-2,), True)
        # No vector of the box has the image at 3000, as the last time is 2999.
        self.check_limit(((2,),), (1,), (5999 - 1,), (-2,), False)
        self.check_limit(((2,),), (1,), (6000,), (-2,), True)
        self.check_limit(((2,),), (1,), (2999,), (-1,), False)
        self.check_limit(((2,),), (1,), (3001,), (-1,), True)
        # From 3002 to 3003 none leaves the rest that is wanted: the box has no time at all.
        cross = ((1, 0), (0, 5))
        self.check_limit(cross, (1, 1), (-3002, 6007), (1, -2), False)
        self.assertEqual(row_law(cross, (1, 1), (-3002, 6007), (1, -2)), (0, 1, (None,)))
        self.check_limit(cross, (1, 1), (-3001, 6007), (1, -2), True)
        # One time alone.
        thin = ((1,), (0,))
        self.check_limit(thin, (1,), (0, 2999), (0, -1), False)
        self.check_limit(thin, (1,), (0, 3000), (0, -1), True)
        self.check_limit(thin, (1,), (0, 3000), (0, 1), False)
        self.assertEqual(row_law(thin, (1,), (0, 2999), (0, -1)), (3000, 1, (None,)))

    def test_endlessly_many_times(self):
        one = ((1,),)
        self.check_limit(one, (1,), (-3000,), (1,), False)
        self.check_limit(one, (1,), (-3001,), (1,), True)
        self.assertEqual(row_law(one, (1,), (-3000,), (1,)), (3000, 1, ((0, 1),)))
        # The boxes (0, 0), (1, 0) and (2, 0) begin at 3000 less 4, 2 and 0.
        self.check_limit(COINS, (1, 1), (-2996,), (1,), False)
        self.check_limit(COINS, (1, 1), (-2997,), (1,), True)
        self.assertEqual(row_law(COINS, (1, 1), (-2996,), (1,))[:2], (2998, 3))
        self.assertEqual(row_law(COINS, (1, 1), (-2996,), (1,))[2], ((1, 1), (1, 1), (2, 1)))

    def test_the_boxes(self):
        matrix, cost = ((2, 6, 0, 5, 0), (9, 4, 8, 6, 8), (7, 8, 6, 7, 9)), (0, 0, 0, 0, 0)
        self.check_limit(matrix, cost, (0, 0, 0), (2, 9, 7), True)
        self.check_limit(WIDE, (0,) * 6, (0,), (1,), True)

    def test_boxes_have_the_times_that_their_vectors_have(self):
        # [231], against the vectors of single boxes.
        for matrix in PLAIN[:8]:
            cost = costs_for(matrix)[2]
            for start, step in some_rows(matrix, 236)[::3]:
                found = row_values(matrix, cost, start, step, 30)
                for k in range(31):
                    told = [vector_in(matrix, box, along(start, step, k)) for box in boxes(matrix, cost)]
                    first = [vector for vector in told if vector is not None]
                    self.assertEqual(found[k], dot(cost, first[0]) if first else None)
                    self.assertLessEqual(len({key_of(cost, vector) for vector in first}), 1)


class Example(unittest.TestCase):
    """[235]"""

    def test_the_example(self):
        self.assertEqual(row_values(((2, 3),), (1, 1), (0,), (1,), 9), [0, None, 1, 1, 2, 2, 2, 3, 3, 3])
        self.assertEqual(row_law(((2, 3),), (1, 1), (0,), (1,)), (2, 3, ((1, 1), (1, 1), (2, 1))))


class Wrong(unittest.TestCase):
    """The errors, and their order"""

    def test_errors(self):
        sides = [(2, side, NotSide) for side in NO_SIDES]
        steps = [(3, step, BadNumber) for step in NO_STEPS]
        for function in (row_law, solved_times):
            check_errors(self, function, (TWISTED, COST, (3, 4), (1, 1)), START + sides + steps)
        numbers = [(4, n, BadNumber) for n in (-1, 1001)]
        check_errors(self, row_values, (TWISTED, COST, (3, 4), (1, 1), 5), START + sides + steps + numbers)

    def test_ahead_of_too_large(self):
        zeros = (0,) * 6
        for function, more in Limits.FUNCTIONS:
            for matrix, cost, start, step, error in [
                    (((9, 8, 7, 6, 5, 10),), zeros, (0,), (1,), NotMatrix),
                    (((9, 8, 7, 6, 5, -4),), zeros, (0,), (1,), NotPointed),
                    (WIDE, zeros[1:], (0,), (1,), NotCost), (WIDE, zeros, (0, 0), (1,), NotSide),
                    (WIDE, zeros, (0,), (10,), BadNumber), (WIDE, zeros, (0,), (1, 1), BadNumber)]:
                with self.assertRaises(error):
                    function(matrix, cost, start, step, *more)
        with self.assertRaises(BadNumber):
            row_values(WIDE, zeros, (0,), (1,), 1001)

    def test_fresh_lists(self):
        for function, more in [(row_values, (5,)), (solved_times, ())]:
            once = function(COINS, (1, 1), (5,), (-1,), *more)
            kept = list(once)
            once.clear()
            self.assertTrue(kept)
            self.assertEqual(function(COINS, (1, 1), (5,), (-1,), *more), kept)


if __name__ == "__main__":
    unittest.main()
