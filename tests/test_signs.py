"""Promises [40] and [42] of signs.py: what is below a vector, parts, going down."""

import unittest
from itertools import product
from random import Random

from tallyhull.errors import BadNumber, TallyError
from tallyhull.signs import down, headed, is_below, opposite, parts, support
from tests.fibers import is_under, plus

GREAT = 10 ** 40


def down_by_hand(vectors, vector):
    """[42] and the interface, as they stand there: one vector at a time."""
    taken, left = [], vector
    while True:
        for k, row in enumerate(vectors):
            turned = tuple(-entry for entry in row)
            if any(row) and is_under(row, left):
                taken.append(k + 1)
                left = plus(left, turned)
                break
            if any(row) and is_under(turned, left):
                taken.append(-(k + 1))
                left = plus(left, row)
                break
        else:
            return taken, left


class Below(unittest.TestCase):
    """[40]"""

    def test_every_small_pair(self):
        for one in product(range(-2, 3), repeat=3):
            for other in product(range(-2, 3), repeat=3):
                self.assertIs(is_below(one, other), is_under(one, other), (one, other))

    def test_by_hand(self):
        for one, other, told in [
                ((0, 0), (0, 0), True), ((0, 0), (3, -4), True), ((3, -4), (3, -4), True),
                ((1, -4), (3, -4), True), ((1, 4), (3, -4), False), ((4, 0), (3, -4), False),
                ((1, 0), (0, 5), False), ((-1, 0), (0, 5), False), ((-3,), (-2,), False),
                ((-2,), (-3,), True), ((), (), True), ((0,), (0,), True), ((1,), (0,), False),
                ((1,) * 9, (1,) * 9, True), ((0,) * 8 + (-1,), (1,) * 9, False),
                ((GREAT, -GREAT), (GREAT, -GREAT), True), ((GREAT + 1, 0), (GREAT, 0), False)]:
            with self.subTest(one=one, other=other):
                self.assertIs(is_below(one, other), told)

    def test_different_lengths(self):
        for one, other in [((), (0,)), ((1,), ()), ((1, 2), (1, 2, 3)), ((0, 0, 0), (0, 0))]:
            with self.assertRaises(BadNumber):
                is_below(one, other)
        self.assertTrue(issubclass(BadNumber, TallyError))


class Parts(unittest.TestCase):
    """[40]"""

    def test_by_hand(self):
        for vector, one, other in [
                ((), (), ()), ((0,), (0,), (0,)), ((0, 0, 0), (0, 0, 0), (0, 0, 0)),
                ((3, -4, 0, 1), (3, 0, 0, 1), (0, 4, 0, 0)), ((-1, -2), (0, 0), (1, 2)),
                ((5, 6), (5, 6), (0, 0)), ((GREAT, -GREAT), (GREAT, 0), (0, GREAT))]:
            with self.subTest(vector):
                self.assertEqual(parts(vector), (one, other))
                self.assertIsInstance(parts(vector), tuple)

    def test_the_vector_is_the_first_part_less_the_second(self):
        for vector in product(range(-2, 3), repeat=4):
            one, other = parts(vector)
            self.assertEqual(tuple(a - b for a, b in zip(one, other)), vector)
            self.assertGreaterEqual(min(one + other), 0)
            self.assertFalse(any(a and b for a, b in zip(one, other)))

    def test_opposites(self):
        for vector, told in [((), ()), ((0, 0), (0, 0)), ((1, -2, 0), (-1, 2, 0)),
                             ((-GREAT,), (GREAT,))]:
            self.assertEqual(opposite(vector), told)

    def test_the_first_entry_becomes_positive(self):
        for vector, told in [
                ((), ()), ((0, 0), (0, 0)), ((0, -1, 2), (0, 1, -2)), ((0, 1, -2), (0, 1, -2)),
                ((-3,), (3,)), ((2, -3), (2, -3)), ((-2, -3), (2, 3)), ((0, 0, -GREAT), (0, 0, GREAT))]:
            with self.subTest(vector):
                self.assertEqual(headed(vector), told)

    def test_the_indexes_of_what_is_not_0(self):
        for vector, told in [((), ()), ((0, 0), ()), ((0, -1, 2), (1, 2)), ((7,), (0,)),
                             ((-1, 0, 0, 0, 0, 0, 0, GREAT), (0, 7))]:
            self.assertEqual(support(vector), told)


class GoingDown(unittest.TestCase):
    """[42]"""

    def test_the_example(self):
        # [46]: first (1, -2, 1, 0), then the opposite of (0, 1, -2, 1).
        rows = [(1, -2, 1, 0), (0, 1, -2, 1)]
        self.assertEqual(down(rows, (1, -3, 3, -1)), ([1, -2], (0, 0, 0, 0)))
        self.assertEqual(down(rows[::-1], (1, -3, 3, -1)), ([-1, 2], (0, 0, 0, 0)))

    def test_by_hand(self):
        for vectors, vector, taken, left in [
                ([], (3, -1), [], (3, -1)), ([(1, 0)], (0, 0), [], (0, 0)),
                ([(0, 0), (1, 0)], (2, 0), [2, 2], (0, 0)),
                ([(0, 0)], (2, 0), [], (2, 0)), ([(0,)], (0,), [], (0,)),
                ([(2, 0), (1, 0)], (3, 0), [1, 2], (0, 0)),
                ([(1, 0), (2, 0)], (3, 0), [1, 1, 1], (0, 0)),
                ([(2, 0)], (-5, 1), [-1, -1], (-1, 1)),
                ([(-2, 0)], (-5, 1), [1, 1], (-1, 1)),
                ([(1, 1), (1, -1)], (2, -1), [2], (1, 0)),
                ([(3, -1), (1, -1), (-1, 0)], (5, -2), [1, 2, -3], (0, 0)),
                ([(1, -1), (-1, 1)], (2, -2), [1, 1], (0, 0)),
                ([(-1, 1), (1, -1)], (2, -2), [-1, -1], (0, 0)),
                ([], (), [], ()), ([()], (), [], ())]:
            with self.subTest(vectors=vectors, vector=vector):
                self.assertEqual(down(vectors, vector), (taken, left))

    def test_the_first_that_is_below_is_taken_each_time(self):
        source = Random(42)
        for _ in range(600):
            many = source.randint(1, 4)
            vectors = [tuple(source.randint(-2, 2) for _ in range(many))
                       for _ in range(source.randint(0, 6))]
            vector = tuple(source.randint(-6, 6) for _ in range(many))
            self.assertEqual(down(vectors, vector), down_by_hand(vectors, vector))

    def test_great_entries(self):
        self.assertEqual(down([(GREAT, -GREAT)], (3 * GREAT, -2 * GREAT)), ([1, 1], (GREAT, 0)))
        self.assertEqual(down([(-GREAT,)], (GREAT + 1,)), ([-1], (1,)))

    def test_entries_of_the_list_are_not_looked_at(self):
        taken, left = down([(1,), (1, 1), (1, 1, 1), ()], (2, 3))
        self.assertEqual((taken, left), ([2, 2], (0, 1)))

    def test_what_is_taken_adds_up(self):
        rows = [(1, -2, 1, 0), (0, 1, -2, 1), (1, -1, -1, 1)]
        for vector in product(range(-4, 5), repeat=4):
            taken, left = down(rows, vector)
            total = left
            for mark in taken:
                row = rows[abs(mark) - 1]
                step = row if mark > 0 else tuple(-entry for entry in row)
                self.assertTrue(is_under(step, vector))
                total = plus(total, step)
            self.assertEqual(total, vector)
            self.assertTrue(is_under(left, vector))
            for row in rows:
                self.assertFalse(is_under(row, left))
                self.assertFalse(is_under(opposite(row), left))


class Lists(unittest.TestCase):
    """[0]"""

    def test_fresh_lists_and_unchanged_arguments(self):
        vectors = [(1, 0), (0, 1)]
        once = down(vectors, (2, -1))
        self.assertEqual(vectors, [(1, 0), (0, 1)])
        self.assertEqual(once, ([1, 1, -2], (0, 0)))
        once[0].append(9)
        self.assertEqual(down(vectors, (2, -1)), ([1, 1, -2], (0, 0)))
        self.assertIsInstance(once[0], list)
        self.assertIsInstance(once, tuple)


if __name__ == "__main__":
    unittest.main()
