"""Promises [163] to [166]: lists of dependences that join all solutions."""

import unittest
from itertools import product
from random import Random

from tallyhull.errors import NotMatrix, NotMoves, NotPointed, NotSide, TooLarge
from tallyhull.graver import graver_list
from tallyhull.joins import joins_all, joins_side, least_joining, needed_sides, unjoined
from tallyhull.solutions import is_walk, solutions
from tallyhull.testsets import least_test_set
from tests.fibers import (
    ALONE, LISTED, WIDE, costs_for, minus, plus, solutions_by_hand, wrong_calls)
from tests.samples import FLAT, GAPPED, SLOPED, TWISTED, image_by_hand
from tests.test_cheapest import NO_SIDES, some_sides
from tests.test_staircases import RINGS
from tests.test_testsets import PLAIN

START = [(0, ((1, 1, 1, 10), (0, 1, 2, 3)), NotMatrix), (0, RINGS, NotPointed)]
LEAST = [(1, -2, 1, 0), (1, -1, -1, 1), (0, 1, -2, 1)]
NO_DEPENDENCES = [(0, 0, 0, 0), (1, 0, 0, 0), (1, -2, 1), (1, -2, 1, 0, 0), (), (1, -1, -1, 2)]
SOLID = [((1, 1, 1, 1, 1, 1), (0, 1, 2, 0, 1, 0), (0, 0, 0, 1, 1, 2)),
         ((1, 1, 1, 1), (0, 1, 0, 1), (0, 0, 1, 1)), ((1, 1, 1, 1, 1, 1),),
         ((1, 1, 0, 0), (0, 0, 1, 1), (1, 0, 1, 0)), ((1, 1, 1, 0, 0, 0), (0, 0, 0, 1, 1, 1), (1, 0, 2, 1, 0, 2))]


def joined_by_hand(every, steps):
    """The classes of solutions that steps, on both ways, lead to from one another."""
    left = set(every)
    classes = []
    while left:
        met = [left.pop()]
        for here in met:
            for step in steps:
                for there in (plus(here, step), minus(here, step)):
                    if there in left:
                        left.remove(there)
                        met.append(there)
        classes.append(met)
    return classes


def near_by_hand(every):
    """[164]: the classes of near solutions."""
    classes = []
    for vector in every:
        near = [group for group in classes
                if any(a and b for other in group for a, b in zip(vector, other))]
        classes = [group for group in classes if group not in near]
        classes.append([vector] + [other for group in near for other in group])
    return classes


def level_by_hand(matrix, vector):
    return image_by_hand(matrix, tuple(max(entry, 0) for entry in vector))


def unjoined_by_hand(matrix, moves):
    for vector in graver_list(matrix):
        one = tuple(max(entry, 0) for entry in vector)
        every = solutions_by_hand(matrix, level_by_hand(matrix, vector))
        group = next(group for group in joined_by_hand(every, moves) if one in group)
        if minus(one, vector) not in group:
            return vector
    return None


class Sides(unittest.TestCase):
    """[163]"""

    def test_small_sides(self):
        source = Random(163)
        told = {True: 0, False: 0}
        for matrix in PLAIN:
            every = graver_list(matrix)
            for side in some_sides(matrix)[::2]:
                vectors = solutions_by_hand(matrix, side)
                if len(vectors) > 300:
                    continue
                moves = source.sample(every, source.randint(0, len(every)))
                wanted = len(joined_by_hand(vectors, moves)) <= 1
                self.assertIs(joins_side(matrix, moves, side), wanted)
                told[wanted] += len(vectors) > 1
        self.assertGreater(min(told.values()), 20)

    def test_by_hand(self):
        for moves, side, wanted in [
                ([], (0, 0), True), ([], (1, 4), True), ([], (1, 1), True), ([], (2, 2), False),
                ([(1, -2, 1, 0)], (2, 2), True), ([(-1, 2, -1, 0)], (2, 2), True),
                ([(0, 1, -2, 1)], (2, 2), False), (LEAST, (3, 3), True), (LEAST[:2], (3, 3), True),
                (LEAST[:1], (3, 3), False), ([(2, -3, 0, 1), (1, -1, -1, 1)], (3, 3), True),
                ([(2, -3, 0, 1)] * 3, (3, 3), False), ([(2, -4, 2, 0)], (2, 2), False),
                ([(5, -10, 5, 0)] + LEAST, (3, 3), True)]:
            with self.subTest(moves=moves, side=side):
                self.assertIs(joins_side(TWISTED, moves, side), wanted)

    def test_one_side_and_not_all(self):
        moves = [(1, -2, 1, 0), (1, -1, -1, 1)]
        self.assertIs(joins_side(TWISTED, moves, (3, 3)), True)
        self.assertIs(joins_side(TWISTED, moves, (2, 4)), False)
        self.assertIs(joins_all(TWISTED, moves), False)
        self.assertEqual(unjoined(TWISTED, moves), (0, 1, -2, 1))


class Joining(unittest.TestCase):
    """[163] and [165]"""

    def test_against_walks(self):
        source = Random(164)
        told = {True: 0, False: 0}
        for matrix in PLAIN + SOLID + LISTED[::4]:
            every = graver_list(matrix)
            for few in (0, 0, 1, 1, 2, 3, len(every) // 2):
                moves = source.sample(every, max(0, len(every) - few))
                wanted = unjoined_by_hand(matrix, moves)
                self.assertEqual(unjoined(matrix, moves), wanted)
                self.assertIs(joins_all(matrix, moves), wanted is None)
                told[wanted is None] += 1
        self.assertGreater(min(told.values()), 30)

    def test_a_joining_list_joins_all_small_sides(self):
        for matrix in PLAIN:
            for moves in (least_joining(matrix), graver_list(matrix)):
                for side in some_sides(matrix)[::5]:
                    if len(solutions_by_hand(matrix, side)) < 300:
                        self.assertIs(joins_side(matrix, moves, side), True)

    def test_the_graver_list_and_test_sets(self):
        for matrix in LISTED + SOLID:
            every = graver_list(matrix)
            self.assertIs(joins_all(matrix, every), True)
            self.assertIs(joins_all(matrix, every[::-1] + every[:1]), True)
            for cost in costs_for(matrix)[:2]:
                moves = [minus(head, tail) for head, tail in least_test_set(matrix, cost)]
                self.assertIs(joins_all(matrix, moves), True)
                self.assertIsNone(unjoined(matrix, moves))

    def test_the_empty_list(self):
        for matrix in LISTED:
            every = graver_list(matrix)
            self.assertEqual(unjoined(matrix, []), every[0] if every else None)
            self.assertIs(joins_all(matrix, []), not every)

    def test_long_dependences_do_not_join(self):
        self.assertEqual(unjoined(((1, 1),), [(2, -2)]), (1, -1))
        self.assertIs(joins_all(((1, 1),), [(2, -2), (3, -3)]), False)
        self.assertIs(joins_all(((1, 1),), [(2, -2), (-1, 1)]), True)
        self.assertIs(joins_all(((1, 1, 1),), [(1, -1, 0), (2, -1, -1)]), False)
        self.assertIs(joins_all(((1, 1, 1),), [(1, -1, 0), (1, 0, -1)]), True)


class Least(unittest.TestCase):
    """[164]"""

    def test_needed_sides(self):
        needed = 0
        for matrix in PLAIN + SOLID:
            vectors = list(product(range(3), repeat=len(matrix[0])))[:900]
            sides = sorted({image_by_hand(matrix, vector) for vector in vectors}
                           | {level_by_hand(matrix, vector) for vector in graver_list(matrix)})
            wanted = []
            for side in sides:
                every = solutions_by_hand(matrix, side)
                if len(every) < 300:
                    classes = near_by_hand(every)
                    if len(classes) > 1:
                        wanted.append((side, len(classes)))
            found = needed_sides(matrix)
            self.assertIsInstance(found, list)
            self.assertEqual(found, wanted, matrix)
            needed += len(found)
        self.assertGreater(needed, 20)

    def test_least_joining_lists(self):
        for matrix in PLAIN + SOLID + LISTED[::3]:
            found = least_joining(matrix)
            self.assertIsInstance(found, list)
            self.assertIsNone(unjoined_by_hand(matrix, found))
            self.assertIs(joins_all(matrix, found), True)
            for k in range(len(found)):
                self.assertIs(joins_all(matrix, found[:k] + found[k + 1:]), False)
            levels = [level_by_hand(matrix, vector) for vector in found]
            self.assertEqual(sorted(set(levels)), [side for side, _ in needed_sides(matrix)])
            self.assertEqual(sorted(levels), [side for side, many in needed_sides(matrix)
                                              for _ in range(many - 1)])

    def test_by_hand(self):
        for matrix, wanted in [
                (((1, 1),), [((1,), 2)]), (((1, 1, 1),), [((1,), 3)]), (((2, 3),), [((6,), 2)]),
                (((2, 3, 5),), [((5,), 2), ((6,), 2)]), (FLAT, [((2, 4), 2)]), (SLOPED, []),
                (((-2, -3),), [((-6,), 2)]), (GAPPED, [((3, 3), 2)])]:
            with self.subTest(matrix=matrix):
                self.assertEqual(needed_sides(matrix), wanted)
                self.assertEqual(len(least_joining(matrix)), sum(many - 1 for _, many in wanted))
        for matrix in ALONE:
            self.assertEqual(needed_sides(matrix), [])
            self.assertEqual(least_joining(matrix), [])
            self.assertIs(joins_all(matrix, []), True)


class Example(unittest.TestCase):
    """[166]"""

    def test_the_example(self):
        self.assertEqual(solutions(TWISTED, (3, 3)), [(0, 3, 0, 0), (1, 1, 1, 0), (2, 0, 0, 1)])
        self.assertEqual(needed_sides(TWISTED), [((2, 2), 2), ((2, 3), 2), ((2, 4), 2)])
        self.assertIs(joins_all(TWISTED, LEAST), True)
        for k in range(3):
            self.assertIs(joins_all(TWISTED, LEAST[:k] + LEAST[k + 1:]), False)
        self.assertEqual({max(v, minus((0,) * 4, v)) for v in least_joining(TWISTED)}, set(LEAST))
        self.assertIs(is_walk(TWISTED, (0, 3, 0, 0), (2, 0, 0, 1), LEAST[:2]), True)


class Wrong(unittest.TestCase):
    """The errors, and their order"""

    def check_errors(self, function, good, wrongs):
        for arguments, error in wrong_calls(good, wrongs):
            with self.subTest(function.__name__, arguments=arguments):
                with self.assertRaises(error):
                    function(*arguments)

    def test_errors(self):
        lists = [(1, LEAST + [vector], NotMoves) for vector in NO_DEPENDENCES]
        sides = [(2, side, NotSide) for side in NO_SIDES]
        self.check_errors(joins_side, (TWISTED, LEAST, (3, 3)),
                          START + lists + sides + [(2, (61, 0), TooLarge)])
        for function in (joins_all, unjoined):
            self.check_errors(function, (TWISTED, LEAST), START + lists)
        for function in (needed_sides, least_joining):
            self.check_errors(function, (TWISTED,), START)

    def test_too_large(self):
        for function in (joins_all, unjoined):
            with self.assertRaises(TooLarge):
                function(WIDE, [])
            with self.assertRaises(NotMoves):
                function(WIDE, [(0,) * 6])
        for function in (needed_sides, least_joining):
            with self.assertRaises(TooLarge):
                function(WIDE)
        # One side needs no Graver list.
        self.assertIs(joins_side(WIDE, [], (3,)), True)
        self.assertIs(joins_side(WIDE, [], (9,)), False)
        with self.assertRaises(TooLarge):
            joins_side(((1, 1, 1, 1),), [(1, -1, 0, 0)], (21,))
        with self.assertRaises(TooLarge):
            joins_side(((1, 1),), [(1, -1)], (61,))

    def test_sides_of_members_that_are_too_great(self):
        # 8 times the column 9 is 9 times the column 8: a side of 72.
        for matrix in (((8, 9),), ((7, 9),), ((-8, -9),)):
            every = graver_list(matrix)
            for function in (joins_all, unjoined):
                with self.assertRaises(TooLarge):
                    function(matrix, every)
            for function in (needed_sides, least_joining):
                with self.assertRaises(TooLarge):
                    function(matrix)
        self.assertEqual(needed_sides(((7, 8),)), [((56,), 2)])
        self.assertEqual(needed_sides(((5, 9),)), [((45,), 2)])

    def test_fresh_lists(self):
        for function in (needed_sides, least_joining):
            once = function(TWISTED)
            once.clear()
            self.assertEqual(len(function(TWISTED)), 3)
        given = list(LEAST)
        joins_all(TWISTED, given)
        joins_side(TWISTED, given, (3, 3))
        self.assertEqual(given, LEAST)


if __name__ == "__main__":
    unittest.main()
