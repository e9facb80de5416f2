"""Promises [40] to [46]: dependences, Graver lists and papers, circuits, sums and walks."""

import unittest
from itertools import combinations, product
from math import gcd
from random import Random

from tallyhull.errors import NoAnswer, NotMatrix, NotPointed, NotVector, TooLarge
from tallyhull.graver import (
    circuits, graver_list, in_graver_list, is_dependence, is_graver_paper, sum_of, walk)
from tallyhull.lattices import null_basis
from tallyhull.matrices import is_pointed
from tests.fibers import (
    ALONE, LIMIT, LISTED, OVER, SMALL, WIDE, dependences_by_hand, graver_by_hand, head_up, is_under, minus,
    plus, solutions_by_hand, wrong_calls)
from tests.samples import (
    FLAT, GAPPED, NO_MATRIX, POINTED, RINGED, TWISTED, columns_by_hand, image_by_hand, mixed,
    rank_by_fractions)
from tests.test_signs import down_by_hand

TWISTED_LIST = [(0, 1, -2, 1), (1, -2, 1, 0), (1, -1, -1, 1), (1, 0, -3, 2), (2, -3, 0, 1)]
REACH = {1: 9, 2: 12, 3: 9, 4: 5, 5: 3, 6: 2}
NO_VECTORS = [(), (1, 2, 3), (1, 2, 3, 4, 5)]


def turned(vector):
    return tuple(-entry for entry in vector)


def is_shown(matrix, vectors):
    """[43], as it stands there."""
    if any(not any(vector) or any(image_by_hand(matrix, vector)) for vector in vectors):
        return False
    if len({head_up(vector) for vector in vectors}) < len(vectors):
        return False
    pairs = list(combinations(vectors, 2))
    wanted = list(null_basis(matrix)) + [plus(*pair) for pair in pairs] + [minus(*pair) for pair in pairs]
    return all(not any(down_by_hand(vectors, vector)[1]) for vector in wanted)


def has_one_below(matrix, vector):
    """Whether a dependence has another dependence below it."""
    ranges = [range(min(0, entry), max(0, entry) + 1) for entry in vector]
    return any(any(other) and other != vector and not any(image_by_hand(matrix, other))
               for other in product(*ranges))


class Dependences(unittest.TestCase):
    """[40]"""

    def test_against_the_words(self):
        for matrix in (TWISTED, GAPPED, FLAT, ((2, 3),), ((1,),), ((1, 1, 2), (1, 1, 2))):
            for vector in product(range(-3, 4), repeat=len(matrix[0])):
                told = any(vector) and not any(image_by_hand(matrix, vector))
                self.assertIs(is_dependence(matrix, vector), told)

    def test_great_entries(self):
        great = 10 ** 50
        self.assertIs(is_dependence(((2, 3),), (3 * great, -2 * great)), True)
        self.assertIs(is_dependence(((2, 3),), (3 * great, -2 * great + 1)), False)

    def test_zeros(self):
        for matrix in POINTED:
            self.assertIs(is_dependence(matrix, (0,) * len(matrix[0])), False)


class GraverLists(unittest.TestCase):
    """[41]"""

    def test_against_all_vectors_that_are_small(self):
        for matrix in SMALL + [GAPPED, FLAT, TWISTED]:
            most = REACH[len(matrix[0])]
            with self.subTest(matrix):
                small = [v for v in graver_list(matrix) if max(map(abs, v)) <= most]
                self.assertEqual(small, graver_by_hand(matrix, most))

    def test_each_is_a_dependence_with_none_below_it(self):
        for matrix in LISTED:
            with self.subTest(matrix):
                found = graver_list(matrix)
                self.assertIsInstance(found, list)
                self.assertEqual(found, sorted(set(found)))
                for vector in found:
                    self.assertEqual(head_up(vector), vector)
                    self.assertTrue(any(vector))
                    self.assertFalse(any(image_by_hand(matrix, vector)))
                for one, other in combinations(found, 2):
                    self.assertFalse(is_under(one, other) or is_under(other, one))
                    self.assertFalse(is_under(turned(one), other) or is_under(turned(other), one))

    def test_all_of_them_are_there(self):
        # [43]: what goes down for these sums goes down for all dependences.
        for matrix in LISTED:
            found = graver_list(matrix)
            if len(found) <= 25:
                self.assertTrue(is_shown(matrix, found), matrix)

    def test_by_hand(self):
        for matrix, found in [
                (TWISTED, TWISTED_LIST), (GAPPED, [(2, -3, 1)]), (FLAT, [(2, -1)]),
                (((1, 1),), [(1, -1)]), (((2, 3),), [(3, -2)]), (((4, 6),), [(3, -2)]),
                (((-4, -6),), [(3, -2)]), (((3, 0, 3), (1, 2, 1)), [(1, 0, -1)]),
                (((1, 1, 1),), [(0, 1, -1), (1, -1, 0), (1, 0, -1)]),
                (((1, 2, 3),), [(0, 3, -2), (1, -2, 1), (1, 1, -1), (2, -1, 0), (3, 0, -1)]),
                (((1, 1, 1, 1), (0, 1, 0, 1), (0, 0, 1, 1)), [(1, -1, -1, 1)]),
                (((1, 2, 3), (0, 0, 0)), [(0, 3, -2), (1, -2, 1), (1, 1, -1), (2, -1, 0), (3, 0, -1)]),
                (((1, 0, 0, 1), (0, 1, 0, -1), (0, 0, 1, 1)), [(1, -1, 1, -1)])]:
            with self.subTest(matrix):
                self.assertEqual(graver_list(matrix), found)

    def test_how_many(self):
        # Two of six equal columns; and the known numbers of such sums without a part.
        for matrix, many in [(((1, 1, 1, 1, 1, 1),), 15), (((1, 2, 3, 4),), 15), (LIMIT, 150),
                             (((1, 1, 1, 1, 1), (0, 1, 2, 3, 4)), 16)]:
            self.assertEqual(len(graver_list(matrix)), many)

    def test_where_the_null_lattice_is_0_alone(self):
        for matrix in ALONE:
            self.assertEqual(graver_list(matrix), [])

    def test_columns_in_another_order(self):
        for matrix in (TWISTED, GAPPED, ((1, 2, 3, 4),), ((1, 2, 1, 2), (1, 2, 3, 6))):
            many = len(matrix[0])
            for order in ((k + 1) % many for k in range(many)), reversed(range(many)):
                order = list(order)
                other = tuple(tuple(row[k] for k in order) for row in matrix)
                told = sorted(head_up(tuple(v[k] for k in order)) for v in graver_list(matrix))
                self.assertEqual(graver_list(other), told)

    def test_too_many(self):
        for matrix in (WIDE, OVER, ((9, 7, 5, 4, 3, 2), (1, 2, 3, 5, 8, 9)),
                       ((5, 7, 0, 0, 6, 7), (9, 6, 1, 8, 4, 0), (1, 0, 5, 9, 5, 8))):
            with self.assertRaises(TooLarge):
                graver_list(matrix)


class Papers(unittest.TestCase):
    """[42] and [43]"""

    def test_the_list_itself_in_any_order_and_with_opposites(self):
        source = Random(43)
        for matrix in LISTED:
            found = graver_list(matrix)
            self.assertIs(is_graver_paper(matrix, found), True, matrix)
            some = [turned(vector) if source.random() < 0.5 else vector for vector in found]
            source.shuffle(some)
            self.assertIs(is_graver_paper(matrix, some), True, matrix)

    def test_against_the_words(self):
        source = Random(44)
        for matrix in (TWISTED, GAPPED, FLAT, ((1, 2, 3),), ((1, 1, 1),), ((2, 3),)):
            near = dependences_by_hand(matrix, 3)
            for _ in range(60):
                some = source.sample(graver_list(matrix), source.randint(0, len(graver_list(matrix))))
                some += source.sample(near, source.randint(0, min(3, len(near))))
                source.shuffle(some)
                self.assertIs(is_graver_paper(matrix, some), is_shown(matrix, some), (matrix, some))

    def test_one_less(self):
        for matrix in (TWISTED, GAPPED, ((1, 2, 3, 4),), ((1, 1, 1, 1, 1), (0, 1, 2, 3, 4))):
            found = graver_list(matrix)
            for k in range(len(found)):
                self.assertIs(is_graver_paper(matrix, found[:k] + found[k + 1:]), False)

    def test_more_than_are_needed(self):
        extra = [(1, -3, 3, -1), (2, -2, -2, 2), (3, -3, -3, 3)]
        self.assertIs(is_graver_paper(TWISTED, TWISTED_LIST + extra), True)
        self.assertIs(is_graver_paper(TWISTED, extra + TWISTED_LIST), True)
        self.assertIs(is_graver_paper(((1, 1),), [(5, -5), (-1, 1)]), True)
        self.assertIs(is_graver_paper(((1, 1),), [(5, -5)]), False)
        self.assertIs(is_graver_paper(((1, 1),), [(2, -2), (3, -3)]), False)
        self.assertIs(is_graver_paper(((1, 1),), [(10 ** 30, -10 ** 30), (1, -1)]), True)

    def test_told_twice(self):
        self.assertIs(is_graver_paper(TWISTED, TWISTED_LIST + [(1, -1, -1, 1)]), False)
        self.assertIs(is_graver_paper(TWISTED, TWISTED_LIST + [(-1, 1, 1, -1)]), False)
        self.assertIs(is_graver_paper(((1, 1),), [(1, -1), (1, -1)]), False)

    def test_what_is_no_dependence(self):
        self.assertIs(is_graver_paper(TWISTED, TWISTED_LIST + [(0, 0, 0, 0)]), False)
        self.assertIs(is_graver_paper(TWISTED, TWISTED_LIST + [(1, 0, 0, 0)]), False)
        self.assertIs(is_graver_paper(((1,),), [(0,)]), False)
        self.assertIs(is_graver_paper(((1,),), [(1,)]), False)

    def test_the_empty_list(self):
        for matrix in ALONE:
            self.assertIs(is_graver_paper(matrix, []), True)
        for matrix in (TWISTED, GAPPED, FLAT):
            self.assertIs(is_graver_paper(matrix, []), False)

    def test_more_than_200_vectors(self):
        many = [(k, -k) for k in range(1, 202)]
        self.assertIs(is_graver_paper(((1, 1),), many[:200]), True)
        self.assertIs(is_graver_paper(((1, 1),), many[1:]), False)
        with self.assertRaises(TooLarge):
            is_graver_paper(((1, 1),), many)
        with self.assertRaises(TooLarge):
            is_graver_paper(((1, 1),), [(1, 1)] * 201)
        with self.assertRaises(NotVector):
            is_graver_paper(((1, 1),), many + [(1,)])

    def test_a_list_of_150(self):
        found = graver_list(LIMIT)
        self.assertIs(is_graver_paper(LIMIT, found), True)
        self.assertIs(is_graver_paper(LIMIT, found[1:]), False)
        self.assertIs(is_graver_paper(LIMIT, found[:-1]), False)


class Members(unittest.TestCase):
    """[41], with any sign of the first entry"""

    def test_small_vectors(self):
        for matrix in (TWISTED, GAPPED, FLAT, ((2, 3),), ((1, 2, 3),), ((1,),)):
            for vector in product(range(-3, 4), repeat=len(matrix[0])):
                told = is_dependence(matrix, vector) and not has_one_below(matrix, vector)
                self.assertIs(in_graver_list(matrix, vector), told, (matrix, vector))

    def test_opposites(self):
        for vector in TWISTED_LIST:
            self.assertIs(in_graver_list(TWISTED, vector), True)
            self.assertIs(in_graver_list(TWISTED, turned(vector)), True)
            self.assertIs(in_graver_list(TWISTED, plus(vector, vector)), False)
        self.assertIs(in_graver_list(TWISTED, (0, 0, 0, 0)), False)

    def test_too_large(self):
        for vector in [(0,) * 6, (1,) * 6, (0, 0, 0, 0, 4, -5)]:
            with self.assertRaises(TooLarge):
                in_graver_list(WIDE, vector)


class Circuits(unittest.TestCase):
    """[44]"""

    def test_against_the_words(self):
        for matrix in POINTED + mixed(74, 80, -3, 6):
            if not is_pointed(matrix):
                continue
            with self.subTest(matrix):
                found = circuits(matrix)
                columns = columns_by_hand(matrix)
                rank = rank_by_fractions(columns)
                self.assertIsInstance(found, list)
                self.assertEqual(found, sorted(set(found)))
                told = set()
                for vector in found:
                    self.assertTrue(any(vector))
                    self.assertFalse(any(image_by_hand(matrix, vector)))
                    self.assertEqual(head_up(vector), vector)
                    self.assertEqual(gcd(*vector), 1)
                    told.add(tuple(k for k, entry in enumerate(vector) if entry))
                # A set of indexes is that of a circuit if its columns are dependent, and those of
                # each smaller part are not.
                wanted = set()
                for size in range(1, rank + 2):
                    for places in combinations(range(len(columns)), size):
                        if rank_by_fractions([columns[k] for k in places]) == size - 1 and all(
                                rank_by_fractions([columns[k] for k in places if k != j]) == size - 1
                                for j in places):
                            wanted.add(places)
                self.assertEqual(told, wanted)

    def test_circuits_are_in_the_graver_list(self):
        for matrix in LISTED:
            self.assertEqual(set(circuits(matrix)) - set(graver_list(matrix)), set())

    def test_by_hand(self):
        self.assertEqual(circuits(TWISTED), [
            (0, 1, -2, 1), (1, -2, 1, 0), (1, 0, -3, 2), (2, -3, 0, 1)])
        self.assertEqual(circuits(((1, 2, 3),)), [(0, 3, -2), (2, -1, 0), (3, 0, -1)])
        self.assertEqual(circuits(((3, 0, 3), (1, 2, 1))), [(1, 0, -1)])
        self.assertEqual(circuits(FLAT), [(2, -1)])
        self.assertEqual(circuits(((1, 2, 1, 2), (1, 2, 3, 6))), [(0, 0, 2, -1), (2, -1, 0, 0)])
        for matrix in ALONE:
            self.assertEqual(circuits(matrix), [])

    def test_there_is_no_limit_for_circuits(self):
        self.assertEqual(len(circuits(WIDE)), 15)


class Sums(unittest.TestCase):
    """[42]"""

    def check_sum(self, matrix, vector):
        rows = graver_list(matrix)
        found = sum_of(matrix, vector)
        self.assertIsInstance(found, list)
        self.assertEqual(found, sorted(found))
        self.assertEqual(len({row for row, _ in found}), len(found))
        total = (0,) * len(vector)
        for row, times in found:
            self.assertIn(head_up(row), rows)
            self.assertTrue(is_under(row, vector))
            self.assertGreaterEqual(times, 1)
            total = plus(total, tuple(times * entry for entry in row))
        self.assertEqual(total, vector)

    def test_small_dependences(self):
        for matrix in (TWISTED, GAPPED, FLAT, ((2, 3),), ((1, 2, 3),), ((1, 1, 1, 1),)):
            for vector in dependences_by_hand(matrix, 4):
                self.check_sum(matrix, vector)

    def test_members_and_their_multiples(self):
        for matrix in LISTED:
            for vector in graver_list(matrix):
                self.assertEqual(sum_of(matrix, vector), [(vector, 1)])
                self.assertEqual(sum_of(matrix, turned(vector)), [(turned(vector), 1)])
                self.check_sum(matrix, tuple(7 * entry for entry in vector))

    def test_great_entries(self):
        great = 10 ** 30
        self.check_sum(TWISTED, (great, -great, -great, great))
        self.check_sum(TWISTED, (great + 1, -3 * great - 2, 3 * great + 1, -great))

    def test_what_is_no_dependence(self):
        for vector in [(0, 0, 0, 0), (1, 0, 0, 0), (1, -2, 1, 1)]:
            with self.assertRaises(NoAnswer):
                sum_of(TWISTED, vector)
        with self.assertRaises(NoAnswer):
            sum_of(WIDE, (0,) * 6)
        with self.assertRaises(TooLarge):
            sum_of(WIDE, (0, 0, 0, 0, 4, -5))


class Walks(unittest.TestCase):
    """[45]"""

    def check_walk(self, matrix, one, other):
        rows = graver_list(matrix)
        found = walk(matrix, one, other)
        self.assertIsInstance(found, list)
        self.assertEqual((found[0], found[-1]), (one, other))
        for before, after in zip(found, found[1:]):
            self.assertIn(head_up(minus(after, before)), rows)
        for vector in found:
            self.assertGreaterEqual(min(vector), 0)
            self.assertEqual(image_by_hand(matrix, vector), image_by_hand(matrix, one))

    def test_all_solutions_of_small_sides(self):
        for matrix, side in [(TWISTED, (5, 8)), (GAPPED, (7, 9)), (((2, 3),), (30,)),
                             (((1, 2, 3),), (7,)), (((1, 1, 1, 1),), (3,))]:
            for one in solutions_by_hand(matrix, side):
                for other in solutions_by_hand(matrix, side):
                    self.check_walk(matrix, one, other)

    def test_from_a_solution_to_itself(self):
        for one in [(0, 0, 0, 0), (0, 2, 1, 0), (9, 9, 9, 9)]:
            self.assertEqual(walk(TWISTED, one, one), [one])
        self.assertEqual(walk(((1,),), (5,), (5,)), [(5,)])

    def test_no_walk(self):
        for one, other in [((0, 2, 1, 0), (0, 2, 0, 1)), ((0, 0, 0, 0), (1, 0, 0, 0)),
                           ((-1, 0, 0, 0), (-1, 0, 0, 0)), ((0, 1, -1, 1), (1, -1, 1, 0)),
                           ((1, -2, 1, 0), (0, 0, 0, 0)), ((0, 0, 0, 0), (0, 1, -2, 1))]:
            with self.subTest(one=one, other=other):
                with self.assertRaises(NoAnswer):
                    walk(TWISTED, one, other)

    def test_how_long_a_walk_may_be(self):
        found = walk(((1, 1),), (0, 2000), (2000, 0))
        self.assertEqual(found, [(k, 2000 - k) for k in range(2001)])
        self.assertEqual(len(walk(((1, 1),), (2000, 5), (0, 2005))), 2001)
        with self.assertRaises(TooLarge):
            walk(((1, 1),), (0, 2001), (2001, 0))
        with self.assertRaises(TooLarge):
            walk(((1, 1),), (10 ** 30, 0), (0, 10 ** 30))
        great = 10 ** 30
        self.assertEqual(len(walk(((1, 1),), (great, 5), (great + 3, 2))), 4)

    def test_the_graver_list_is_too_large(self):
        for one, other in [((0,) * 6, (0,) * 6), ((0, 0, 0, 0, 4, 0), (0, 0, 0, 0, 0, 5))]:
            with self.assertRaises(TooLarge):
                walk(WIDE, one, other)
        with self.assertRaises(NoAnswer):
            walk(WIDE, (0,) * 6, (1,) * 6)


class Example(unittest.TestCase):
    """[46]"""

    def test_word_for_word(self):
        found = [(0, 1, -2, 1), (1, -2, 1, 0), (1, -1, -1, 1), (1, 0, -3, 2), (2, -3, 0, 1)]
        self.assertEqual(graver_list(TWISTED), found)
        self.assertEqual(circuits(TWISTED), [v for v in found if v != (1, -1, -1, 1)])
        self.assertEqual(plus(found[0], found[1]), (1, -1, -1, 1))
        self.assertEqual(sum_of(TWISTED, (1, -3, 3, -1)), [((0, -1, 2, -1), 1), ((1, -2, 1, 0), 1)])


class Wrong(unittest.TestCase):
    """The errors, and their order"""

    RINGS = ((1, 1, -1, -1), (1, -1, 1, -1))
    BAD = ((1, 1, 1, 10), (0, 1, 2, 3))

    def check_errors(self, function, good, wrongs):
        for arguments, error in wrong_calls(good, wrongs):
            with self.subTest(function.__name__, arguments=arguments):
                with self.assertRaises(error):
                    function(*arguments)

    def test_matrices(self):
        for function in (graver_list, circuits):
            for matrix in NO_MATRIX:
                with self.assertRaises(NotMatrix):
                    function(matrix)
            for matrix in RINGED:
                with self.assertRaises(NotPointed):
                    function(matrix)

    def test_vectors(self):
        start = [(0, self.BAD, NotMatrix), (0, self.RINGS, NotPointed)]
        some = [(1, vector, NotVector) for vector in NO_VECTORS]
        for function in (is_dependence, in_graver_list, sum_of):
            self.check_errors(function, (TWISTED, (1, -2, 1, 0)), start + some)
        self.check_errors(sum_of, (TWISTED, (1, -2, 1, 0)), start + [(1, (1, 1, 1, 1), NoAnswer)])

    def test_lists(self):
        start = [(0, self.BAD, NotMatrix), (0, self.RINGS, NotPointed)]
        some = [(1, TWISTED_LIST + [vector], NotVector) for vector in NO_VECTORS]
        large = [(1, [(1, -2, 1, 0)] * 201, TooLarge)]
        self.check_errors(is_graver_paper, (TWISTED, TWISTED_LIST), start + some + large)
        with self.assertRaises(NotVector):
            is_graver_paper(TWISTED, [(1, -2, 1, 0)] * 201 + [()])

    def test_walks(self):
        start = [(0, self.BAD, NotMatrix), (0, self.RINGS, NotPointed)]
        ones = [(1, vector, NotVector) for vector in NO_VECTORS]
        others = [(2, vector, NotVector) for vector in NO_VECTORS]
        no_answer = [(1, (-1, 4, 0, 0), NoAnswer), (2, (-1, 4, 0, 0), NoAnswer),
                     (2, (1, 1, 1, 1), NoAnswer)]
        self.check_errors(walk, (TWISTED, (0, 2, 1, 0), (1, 0, 2, 0)),
                          start + ones + others + no_answer)

    def test_fresh_lists_and_unchanged_arguments(self):
        vectors = list(TWISTED_LIST)
        self.assertTrue(is_graver_paper(TWISTED, vectors))
        self.assertEqual(vectors, TWISTED_LIST)
        for call in (lambda: graver_list(TWISTED), lambda: circuits(TWISTED),
                     lambda: sum_of(TWISTED, (3, -5, 1, 1)),
                     lambda: walk(TWISTED, (0, 2, 1, 0), (1, 0, 2, 0))):
            once = call()
            told = list(once)
            once.clear()
            self.assertEqual(call(), told)
            self.assertTrue(told)


if __name__ == "__main__":
    unittest.main()
