"""Promises [20] and [21]: stairs forms, ranks and coordinates."""

import unittest
from itertools import product
from random import Random

from tallyhull.errors import BadNumber
from tallyhull.hermite import coordinates, is_stairs, orthogonal, rank, stairs
from tests.samples import all_rows, dot, minors_divisor, rank_by_fractions

LISTS = [
    [], [(0,)], [(0, 0), (0, 0)], [(4,), (6,)], [(6,), (-9,), (15,)], [(-5,)],
    [(2, 1), (4, 5)], [(2, 4), (1, 5)], [(1, 2), (1, 2)], [(1, 2), (2, 4), (3, 6)],
    [(0, 3), (0, 5)], [(0, 0, 7), (0, 2, 1), (3, 1, 1)], [(1, 0, -3, 2), (0, 1, -2, 1)],
    [(1, 1, 1, 1), (0, 1, 2, 3), (1, 2, 3, 4)], [(-2, 3), (5, -7), (0, 0)],
    [(1, 2, 3, 4, 5, 6)], [(0, 0, 0, 0, 0, -4), (0, 0, 0, 0, 0, 6)],
    [(10 ** 30, 1), (10 ** 30 + 7, 3)], [(6, 4, 2), (9, 3, 0), (0, 5, 5), (3, 3, 3)],
]


def random_lists(seed, many):
    source = Random(seed)
    found = []
    for _ in range(many):
        width = source.randint(1, 6)
        size = source.randint(0, 7)
        found.append([tuple(source.randint(-6, 6) for _ in range(width)) for _ in range(size)])
    return found


def in_stairs_form(rows):
    """The three conditions of [20], as they stand there."""
    last = -1
    for at, row in enumerate(rows):
        places = [k for k, entry in enumerate(row) if entry]
        if not places or places[0] <= last or row[places[0]] < 0:
            return False
        last = places[0]
        if any(not 0 <= before[last] < row[last] for before in rows[:at]):
            return False
    return True


def combined(rows, numbers, width):
    return tuple(sum(n * row[k] for n, row in zip(numbers, rows)) for k in range(width))


class Stairs(unittest.TestCase):
    """[20]"""

    def test_by_hand(self):
        for vectors, form in [
                ([], ()), ([(0, 0)], ()), ([(4,), (6,)], ((2,),)), ([(-5,)], ((5,),)),
                ([(2, 1), (4, 5)], ((2, 1), (0, 3))), ([(1, 2), (1, 2)], ((1, 2),)),
                ([(0, 3), (0, 5)], ((0, 1),)), ([(2, 7), (0, 3)], ((2, 1), (0, 3))),
                ([(2, -1), (0, 3)], ((2, 2), (0, 3))), ([(0, 3), (2, 1)], ((2, 1), (0, 3))),
                ([(1, 2), (2, 4), (3, 6)], ((1, 2),)), ([(-1, 5), (0, 0)], ((1, -5),)),
                ([(3, 1, 1), (0, 2, 1), (0, 0, 7)], ((3, 1, 1), (0, 2, 1), (0, 0, 7))),
                ([(1, 9, 9), (0, 2, 9), (0, 0, 5)], ((1, 1, 3), (0, 2, 4), (0, 0, 5)))]:
            with self.subTest(vectors):
                self.assertEqual(stairs(vectors), form)

    def test_the_form_and_the_lattice(self):
        for vectors in LISTS + random_lists(21, 300):
            form = stairs(vectors)
            self.assertIsInstance(form, tuple)
            self.assertTrue(all(isinstance(row, tuple) for row in form))
            self.assertTrue(in_stairs_form(form), vectors)
            size = rank_by_fractions(vectors)
            self.assertEqual(len(form), size)
            self.assertEqual(rank(vectors), size)
            # Each tuple is in the lattice of the form, and both have the same minors.
            for vector in vectors:
                self.assertIsNotNone(coordinates(form, vector), vectors)
            if size:
                self.assertEqual(minors_divisor(form, size), minors_divisor(vectors, size))

    def test_the_same_lattice_told_in_other_ways(self):
        source = Random(22)
        for vectors in LISTS + random_lists(23, 150):
            form = stairs(vectors)
            others = list(vectors)
            for _ in range(8):
                if len(others) > 1:
                    one, other = source.sample(range(len(others)), 2)
                    times = source.randint(-3, 3)
                    others[one] = tuple(a + times * b for a, b in zip(others[one], others[other]))
            source.shuffle(others)
            others = [tuple(-entry for entry in row) for row in others]
            self.assertEqual(stairs(others), form)
            self.assertEqual(stairs(others + others[:3]), form)
            self.assertEqual(stairs(list(form)), form)
            if vectors:
                self.assertEqual(stairs(others + [(0,) * len(vectors[0])]), form)

    def test_another_lattice_has_another_form(self):
        self.assertNotEqual(stairs([(2, 0), (0, 2)]), stairs([(1, 1), (0, 2)]))
        self.assertNotEqual(stairs([(2,)]), stairs([(4,)]))

    def test_is_stairs(self):
        for vectors in LISTS + random_lists(24, 200):
            self.assertIs(is_stairs(vectors), in_stairs_form(vectors), vectors)
            self.assertIs(is_stairs(list(stairs(vectors))), True)

    def test_is_stairs_at_each_condition(self):
        self.assertIs(is_stairs([]), True)
        self.assertIs(is_stairs([(2, 1), (0, 3)]), True)
        self.assertIs(is_stairs([(2, 0), (0, 3)]), True)
        self.assertIs(is_stairs([(2, 2), (0, 3)]), True)
        self.assertIs(is_stairs([(2, 3), (0, 3)]), False)
        self.assertIs(is_stairs([(2, -1), (0, 3)]), False)
        self.assertIs(is_stairs([(-2, 1), (0, 3)]), False)
        self.assertIs(is_stairs([(2, 1), (0, -3)]), False)
        self.assertIs(is_stairs([(0, 3), (2, 1)]), False)
        self.assertIs(is_stairs([(2, 1), (2, 1)]), False)
        self.assertIs(is_stairs([(2, 1), (0, 0)]), False)
        self.assertIs(is_stairs([(0, 0)]), False)
        self.assertIs(is_stairs([(0, 4)]), True)
        self.assertIs(is_stairs([(1, -7, 0), (0, 0, 1)]), True)
        self.assertIs(is_stairs([(1, 5, 2), (0, 0, 2)]), False)

    def test_rank(self):
        for vectors, size in [([], 0), ([(0, 0)], 0), ([(0, 1)], 1), ([(1, 2), (2, 4)], 1),
                              ([(1, 2), (2, 5)], 2), ([(1, 2), (1, 2)], 1),
                              ([(1,), (2,), (3,)], 1), ([(1, 0, 1), (0, 1, 1), (1, 1, 2)], 2)]:
            self.assertEqual(rank(vectors), size)


class Coordinates(unittest.TestCase):
    """[21]"""

    def test_by_hand(self):
        form = [(2, 1), (0, 3)]
        self.assertEqual(tuple(coordinates(form, (4, 5))), (2, 1))
        self.assertEqual(tuple(coordinates(form, (-2, 2))), (-1, 1))
        self.assertEqual(tuple(coordinates(form, (0, 0))), (0, 0))
        self.assertIsNone(coordinates(form, (1, 0)))
        self.assertIsNone(coordinates(form, (2, 2)))     # three times it is in the lattice
        self.assertEqual(tuple(coordinates(form, (6, 6))), (3, 1))
        self.assertIsNone(coordinates([(0, 2, 1)], (1, 2, 1)))
        self.assertIsNone(coordinates([(0, 2, 1)], (0, 2, 2)))
        self.assertEqual(tuple(coordinates([(0, 2, 1)], (0, -6, -3))), (-3,))

    def test_the_empty_list(self):
        self.assertEqual(tuple(coordinates([], (0, 0))), ())
        self.assertIsNone(coordinates([], (0, 1)))

    def test_a_form_as_a_tuple(self):
        self.assertEqual(tuple(coordinates(((2, 1), (0, 3)), (4, 5))), (2, 1))

    def test_coordinates_of_sums(self):
        source = Random(25)
        for vectors in LISTS + random_lists(26, 150):
            form = list(stairs(vectors))
            if not form:
                continue
            for most in (1, 9, 10 ** 12):
                numbers = tuple(source.randint(-most, most) for _ in form)
                total = combined(form, numbers, len(form[0]))
                self.assertEqual(tuple(coordinates(form, total)), numbers)

    def test_exactly_the_lattice(self):
        for form in ([(2, 1), (0, 3)], [(1, 4)], [(0, 2)], [(3, 0), (0, 2)]):
            inside = {combined(form, numbers, 2): numbers
                      for numbers in product(range(-30, 31), repeat=len(form))}
            for vector in all_rows(2, 9):
                found = coordinates(form, vector)
                if vector in inside:
                    self.assertEqual(tuple(found), inside[vector])
                else:
                    self.assertIsNone(found)


class Orthogonal(unittest.TestCase):

    def test_by_hand(self):
        self.assertEqual(orthogonal([(1, 1, 1, 1), (0, 1, 2, 3)], 4),
                         ((1, 0, -3, 2), (0, 1, -2, 1)))
        self.assertEqual(orthogonal([], 2), ((1, 0), (0, 1)))
        self.assertEqual(orthogonal([], 1), ((1,),))
        self.assertEqual(orthogonal([(0, 0, 0)], 3), ((1, 0, 0), (0, 1, 0), (0, 0, 1)))
        self.assertEqual(orthogonal([(5,)], 1), ())
        self.assertEqual(orthogonal([(2, 4)], 2), ((2, -1),))
        self.assertEqual(orthogonal([(1, 0), (0, 1)], 2), ())

    def test_products_rank_and_divided_multiples(self):
        for vectors in [found for found in LISTS + random_lists(27, 250) if found]:
            many = len(vectors[0])
            form = orthogonal(vectors, many)
            self.assertTrue(in_stairs_form(form))
            self.assertEqual(len(form), many - rank_by_fractions(vectors))
            self.assertTrue(all(dot(row, vector) == 0 for row in form for vector in vectors))
            if form:
                # No multiple of a tuple outside is inside: the minors have no common divisor.
                self.assertEqual(minors_divisor(form, len(form)), 1)


class Errors(unittest.TestCase):

    def test_bad_numbers_of_entries(self):
        for vectors in ([(1, 2), (3,)], [(1,), (2, 3)], [()], [(), ()], [(1,) * 7],
                        [(1, 2), (1, 2), (1, 2, 3)], [(0,) * 6, (0,) * 7]):
            calls = [lambda: stairs(vectors), lambda: rank(vectors), lambda: is_stairs(vectors),
                     lambda: coordinates(vectors, vectors[0]),
                     lambda: orthogonal(vectors, len(vectors[0]))]
            for place, call in enumerate(calls):
                with self.subTest(vectors, call=place):
                    with self.assertRaises(BadNumber):
                        call()

    def test_bad_numbers_of_tuples(self):
        enough = [(k, 1) for k in range(40)]
        self.assertEqual(stairs(enough), ((1, 0), (0, 1)))
        self.assertEqual(rank(enough), 2)
        self.assertIs(is_stairs(enough), False)
        self.assertEqual(orthogonal(enough, 2), ())
        many = enough + [(0, 1)]
        for call in (lambda: stairs(many), lambda: rank(many), lambda: is_stairs(many),
                     lambda: coordinates(many, (0, 1)), lambda: orthogonal(many, 2)):
            with self.assertRaises(BadNumber):
                call()

    def test_six_entries_are_allowed(self):
        self.assertEqual(stairs([(0, 0, 0, 0, 0, 2)]), ((0, 0, 0, 0, 0, 2),))
        self.assertEqual(rank([(1, 2, 3, 4, 5, 6)]), 1)
        self.assertEqual(len(orthogonal([], 6)), 6)

    def test_coordinates(self):
        for form in ([(2, 3), (0, 3)], [(0, 1), (1, 0)], [(-1, 0)], [(0, 0)], [(1, 0), (1, 0)]):
            with self.assertRaises(BadNumber):
                coordinates(form, (0, 0))
        for vector in ((), (1,), (1, 2, 3)):
            with self.assertRaises(BadNumber):
                coordinates([(2, 1), (0, 3)], vector)

    def test_orthogonal(self):
        for many in (0, -1, 7):
            with self.assertRaises(BadNumber):
                orthogonal([], many)
        for many in (0, 1, 3, 7, -2):
            with self.assertRaises(BadNumber):
                orthogonal([(1, 2)], many)

    def test_arguments_stay(self):
        vectors = [(4, 6), (2, 9), (0, 0), (4, 6)]
        kept = list(vectors)
        stairs(vectors)
        rank(vectors)
        is_stairs(vectors)
        orthogonal(vectors, 2)
        self.assertEqual(vectors, kept)
        form = [(2, 1), (0, 3)]
        coordinates(form, (4, 5))
        self.assertEqual(form, [(2, 1), (0, 3)])


if __name__ == "__main__":
    unittest.main()
