"""Promises [64] and [65]: meetings, walks by moves, and lists that connect the matrix."""

import unittest
from itertools import combinations, product
from random import Random

from tallyhull.errors import (
    BadNumber, NotCost, NotMatrix, NotMoves, NotPointed, NotVector, TooLarge)
from tallyhull.meetings import bad_meeting, connects, is_good, meetings, walk_between
from tallyhull.testsets import graver_moves, is_test_set, least_test_set
from tests.fibers import (
    ALONE, LISTED, WIDE, costs_for, dependences_by_hand, minus, move_by_hand, plus,
    solutions_by_hand, stands_at, wrong_calls)
from tests.samples import FLAT, GAPPED, TWISTED, image_by_hand
from tests.test_moves import COST, MOVES, NO_SOLUTIONS, START, down_by_hand

LINE = ((1, 1),)
LINE_MOVES = [((0, 1), (1, 0))]
PLANE = ((1, 1, 1),)
PLANE_MOVES = [((1, 0, 0), (0, 1, 0)), ((0, 1, 0), (0, 0, 1))]
DROP = [((0, 1, 0), (0, 0, 1)), ((1, 0, 0), (0, 1, 0)), ((1, 0, 0), (0, 0, 1))]


def meetings_by_hand(moves):
    """[64], as it stands there."""
    found = []
    for (i, one), (j, other) in combinations(enumerate(moves), 2):
        if any(a > 0 and b > 0 for a, b in zip(one[0], other[0])):
            w = tuple(max(a, b) for a, b in zip(one[0], other[0]))
            found.append((i, j, w, plus(minus(w, one[0]), one[1]), plus(minus(w, other[0]), other[1])))
    return found


def steps_by_hand(moves, vector):
    for k, (head, tail) in enumerate(moves):
        for way, one, other in ((1, head, tail), (-1, tail, head)):
            if stands_at(one, vector):
                yield k, way, plus(minus(vector, one), other)


def distances_by_hand(moves, vector):
    """How many steps lead to each vector that is reached."""
    found = {vector: 0}
    layer = [vector]
    while layer:
        following = []
        for here in layer:
            for _, _, other in steps_by_hand(moves, here):
                if other not in found:
                    found[other] = found[here] + 1
                    following.append(other)
        layer = following
    return found


def connects_by_hand(matrix, moves, sides):
    """[65], for some sides."""
    for side in sides:
        every = solutions_by_hand(matrix, side)
        if every and len(distances_by_hand(moves, every[0])) < len(every):
            return False
    return True


def some_moves(source, matrix, cost, most, near):
    every = dependences_by_hand(matrix, near)
    moves = list({move_by_hand(cost, v): 1
                  for v in source.sample(every, min(len(every), source.randint(0, most)))})
    source.shuffle(moves)
    return moves


class Meetings(unittest.TestCase):
    """[64]"""

    def test_against_the_words(self):
        source = Random(64)
        for matrix in (TWISTED, GAPPED, FLAT, ((1, 2, 3),), ((1, 1, 1, 1),), ((2, 3),)):
            for cost in costs_for(matrix):
                for _ in range(6):
                    moves = some_moves(source, matrix, cost, 7, 3)
                    found = meetings(matrix, cost, moves)
                    self.assertIsInstance(found, list)
                    self.assertEqual(found, meetings_by_hand(moves))

    def test_by_hand(self):
        self.assertEqual(meetings(TWISTED, COST, MOVES), [
            (0, 1, (0, 1, 2, 0), (0, 2, 0, 1), (1, 0, 1, 1)),
            (1, 2, (0, 2, 1, 0), (1, 1, 0, 1), (1, 0, 2, 0))])
        self.assertEqual(meetings(PLANE, (2, 1, 0), PLANE_MOVES), [])
        self.assertEqual(meetings(TWISTED, COST, []), [])
        self.assertEqual(meetings(TWISTED, COST, MOVES[:1]), [])
        # A common column alone makes a meeting, whatever the tails have in common.
        self.assertEqual(meetings(PLANE, (2, 1, 0), DROP), [
            (1, 2, (1, 0, 0), (0, 1, 0), (0, 0, 1))])

    def test_good_ones(self):
        source = Random(65)
        bad = 0
        for matrix in (TWISTED, GAPPED, ((1, 2, 3),), ((1, 1, 1),), ((3, 4, 5),)):
            for cost in costs_for(matrix):
                for _ in range(8):
                    moves = some_moves(source, matrix, cost, 6, 3)
                    first = None
                    for i, j in combinations(range(len(moves)), 2):
                        told = all(down_by_hand(moves, x)[0] == down_by_hand(moves, y)[0]
                                   for a, b, _, x, y in meetings_by_hand(moves) if (a, b) == (i, j))
                        self.assertIs(is_good(matrix, cost, moves, i, j), told)
                        if not told and first is None:
                            first = (i, j)
                    self.assertEqual(bad_meeting(matrix, cost, moves), first)
                    bad += first is not None
        self.assertGreater(bad, 20)

    def test_heads_without_a_common_column(self):
        self.assertIs(is_good(TWISTED, COST, MOVES, 0, 2), True)
        self.assertIs(is_good(PLANE, (2, 1, 0), PLANE_MOVES, 0, 1), True)
        self.assertIsNone(bad_meeting(PLANE, (2, 1, 0), PLANE_MOVES))
        self.assertIsNone(bad_meeting(TWISTED, COST, []))

    def test_a_meeting_that_is_not_good(self):
        moves = [((1, 0, 0), (0, 1, 0)), ((1, 0, 0), (0, 0, 1))]
        self.assertIs(is_good(PLANE, (2, 1, 0), moves, 0, 1), False)
        self.assertEqual(bad_meeting(PLANE, (2, 1, 0), moves), (0, 1))
        # With the move of both ends it becomes good.
        self.assertIs(is_good(PLANE, (2, 1, 0), moves + [((0, 1, 0), (0, 0, 1))], 0, 1), True)
        self.assertIsNone(bad_meeting(PLANE, (2, 1, 0), moves + [((0, 1, 0), (0, 0, 1))]))

    def test_the_first_of_several(self):
        moves = [((1, 0, 0, 0), (0, 1, 0, 0)), ((0, 0, 1, 0), (0, 0, 0, 1)),
                 ((1, 0, 0, 0), (0, 0, 0, 1)), ((0, 0, 2, 0), (0, 1, 0, 1))]
        self.assertEqual(bad_meeting(((1, 1, 1, 1),), (3, 1, 2, 0), moves), (0, 2))
        self.assertEqual(bad_meeting(((1, 1, 1, 1),), (3, 1, 2, 0), moves[1:]), (0, 2))

    def test_indexes(self):
        for i, j in [(0, 0), (1, 0), (-1, 0), (0, 3), (2, 3), (-1, 2), (3, 3), (2, 2), (-3, -1),
                     (0, -1), (0, 10 ** 30)]:
            with self.subTest(i=i, j=j):
                with self.assertRaises(BadNumber):
                    is_good(TWISTED, COST, MOVES, i, j)
        with self.assertRaises(BadNumber):
            is_good(TWISTED, COST, [], 0, 1)

    def test_a_way_down_that_is_too_long(self):
        # From (1, 5000) the way down has 5000 indexes, from (1, 5002) it would have 5002.
        moves = [((0, 1), (1, 0)), ((0, 5001), (5001, 0)), ((0, 5003), (5003, 0))]
        self.assertIs(is_good(LINE, (0, 1), moves, 0, 1), True)
        with self.assertRaises(TooLarge):
            is_good(LINE, (0, 1), moves, 0, 2)
        with self.assertRaises(TooLarge):
            bad_meeting(LINE, (0, 1), moves)
        self.assertIsNone(bad_meeting(LINE, (0, 1), moves[:2]))

    def test_a_way_down_that_runs_into_one_that_is_long_enough(self):
        # From (1, 5000, 0) it has 5000 indexes; from (0, 5001, 0), one step before, 5001.
        moves = [((0, 1, 0), (1, 0, 0)), ((0, 5001, 0), (5001, 0, 0)),
                 ((0, 0, 5001), (0, 5001, 0)), ((0, 0, 5001), (5001, 0, 0))]
        self.assertIsNone(bad_meeting(PLANE, (0, 1, 2), moves[:3]))
        self.assertIs(is_good(PLANE, (0, 1, 2), moves, 0, 1), True)
        for call in (lambda: bad_meeting(PLANE, (0, 1, 2), moves),
                     lambda: is_good(PLANE, (0, 1, 2), moves, 2, 3)):
            with self.assertRaises(TooLarge):
                call()


class Walks(unittest.TestCase):
    """[65]"""

    def check_walk(self, moves, one, other, found):
        here = one
        for k, way in found:
            self.assertIn(way, (1, -1))
            head, tail = moves[k] if way == 1 else moves[k][::-1]
            self.assertTrue(stands_at(head, here))
            here = plus(minus(here, head), tail)
        self.assertEqual(here, other)

    def test_all_pairs_of_small_sides(self):
        source = Random(66)
        for matrix, side in [(TWISTED, (4, 6)), (((1, 2, 3),), (7,)), (((2, 3),), (24,)),
                             (((1, 1, 1),), (4,)), (GAPPED, (6, 6))]:
            every = solutions_by_hand(matrix, side)
            for cost in costs_for(matrix):
                moves = some_moves(source, matrix, cost, 4, 3)
                for one in every:
                    told = distances_by_hand(moves, one)
                    for other in every:
                        found = walk_between(matrix, cost, moves, one, other)
                        if other in told:
                            self.assertIsInstance(found, list)
                            self.assertEqual(len(found), told[other])
                            self.check_walk(moves, one, other, found)
                        else:
                            self.assertIsNone(found)

    def test_by_hand(self):
        self.assertEqual(walk_between(LINE, (0, 1), LINE_MOVES, (0, 2), (2, 0)), [(0, 1), (0, 1)])
        self.assertEqual(walk_between(LINE, (0, 1), LINE_MOVES, (2, 0), (1, 1)), [(0, -1)])
        self.assertEqual(walk_between(LINE, (0, 1), LINE_MOVES, (3, 3), (3, 3)), [])
        self.assertEqual(walk_between(LINE, (0, 1), [], (3, 3), (3, 3)), [])
        self.assertIsNone(walk_between(LINE, (0, 1), [], (3, 3), (2, 4)))
        # A move that does not stand leads nowhere.
        self.assertIsNone(walk_between(LINE, (0, 1), [((0, 2), (2, 0))], (0, 1), (1, 0)))
        self.assertEqual(walk_between(LINE, (0, 1), [((0, 2), (2, 0)), ((0, 3), (3, 0))],
                                      (2, 1), (3, 0)), [(0, -1), (1, 1)])

    def test_vectors_of_different_sides(self):
        self.assertIsNone(walk_between(LINE, (0, 1), LINE_MOVES, (3, 3), (3, 4)))
        self.assertIsNone(walk_between(TWISTED, COST, MOVES, (0, 0, 0, 0), (1, 0, 0, 0)))

    def test_more_than_2000_vectors(self):
        found = walk_between(LINE, (0, 1), LINE_MOVES, (0, 1999), (1999, 0))
        self.assertEqual(found, [(0, 1)] * 1999)
        for one, other in [((0, 2000), (2000, 0)), ((0, 2001), (2001, 0)), ((5000, 0), (0, 5000))]:
            with self.assertRaises(TooLarge):
                walk_between(LINE, (0, 1), LINE_MOVES, one, other)
        # The other vector is not reached at all.
        moves = [((1, 0, 0), (0, 1, 0))]
        self.assertIsNone(walk_between(PLANE, (2, 1, 0), moves, (0, 1990, 0), (0, 0, 1990)))
        with self.assertRaises(TooLarge):
            walk_between(PLANE, (2, 1, 0), moves, (0, 2010, 0), (0, 0, 2010))
        with self.assertRaises(TooLarge):
            walk_between(PLANE, (2, 1, 0), PLANE_MOVES, (100, 0, 0), (0, 0, 100))
        great = 10 ** 30
        found = walk_between(PLANE, (2, 1, 0), PLANE_MOVES, (great, great, great),
                             (great - 1, great, great + 1))
        self.assertEqual(len(found), 2)


class Connecting(unittest.TestCase):
    """[65]"""

    def test_lists_that_connect(self):
        for matrix in LISTED[::3]:
            for cost in costs_for(matrix)[:3]:
                self.assertIs(connects(matrix, cost, graver_moves(matrix, cost)), True)
                self.assertIs(connects(matrix, cost, least_test_set(matrix, cost)), True)

    def test_by_hand(self):
        self.assertIs(connects(TWISTED, COST, MOVES), True)
        self.assertIs(connects(TWISTED, COST, MOVES[::-1]), True)
        for k in range(3):
            self.assertIs(connects(TWISTED, COST, MOVES[:k] + MOVES[k + 1:]), False)
        self.assertIs(connects(PLANE, (2, 1, 0), PLANE_MOVES), True)
        self.assertIs(connects(PLANE, (2, 1, 0), DROP), True)
        # It connects the matrix, though it is no test set.
        moves = [((1, 0, 0), (0, 1, 0)), ((1, 0, 0), (0, 0, 1))]
        self.assertIs(connects(PLANE, (2, 1, 0), moves), True)
        self.assertIs(is_test_set(PLANE, (2, 1, 0), moves), False)
        self.assertIs(connects(LINE, (0, 1), [((0, 2), (2, 0)), ((0, 3), (3, 0))]), False)
        self.assertIs(connects(LINE, (0, 1), [((0, 2), (2, 0)), ((0, 1), (1, 0))]), True)

    def test_no_moves(self):
        for matrix in ALONE:
            self.assertIs(connects(matrix, (0,) * len(matrix[0]), []), True)
        for matrix in (TWISTED, GAPPED, FLAT, LINE):
            self.assertIs(connects(matrix, (0,) * len(matrix[0]), []), False)

    def test_against_all_small_sides(self):
        source = Random(67)
        told = {True: 0, False: 0}
        for matrix, sides in [(TWISTED, [(n, k) for n in range(4) for k in range(3 * n + 1)]),
                              (((1, 2, 3),), [(n,) for n in range(8)]),
                              (((1, 1, 1),), [(n,) for n in range(4)]),
                              (((2, 3),), [(n,) for n in range(13)]),
                              (((3, 4, 5),), [(n,) for n in range(21)])]:
            for cost in costs_for(matrix):
                every = graver_moves(matrix, cost)
                for _ in range(8):
                    moves = source.sample(every, source.randint(0, len(every)))
                    moves += [m for m in some_moves(source, matrix, cost, 2, 3) if m not in moves]
                    answer = connects_by_hand(matrix, moves, sides)
                    self.assertIs(connects(matrix, cost, moves), answer, (matrix, cost, moves))
                    told[answer] += 1
        self.assertGreater(min(told.values()), 20)

    def test_test_sets_are_what_connects_with_good_meetings(self):
        source = Random(68)
        told = {True: 0, False: 0}
        for matrix in (TWISTED, ((1, 2, 3),), ((1, 1, 1),), ((3, 4, 5),), GAPPED, ((2, 3),)):
            for cost in costs_for(matrix):
                every = graver_moves(matrix, cost)
                for _ in range(12):
                    moves = source.sample(every, source.randint(0, len(every)))
                    answer = (connects(matrix, cost, moves)
                              and bad_meeting(matrix, cost, moves) is None)
                    self.assertIs(is_test_set(matrix, cost, moves), answer)
                    told[answer] += 1
        self.assertGreater(min(told.values()), 20)

    def test_too_large(self):
        with self.assertRaises(TooLarge):
            connects(WIDE, (0,) * 6, [])
        # The sides of some vectors of the Graver list have more than 2000 solutions.
        matrix, cost = ((7, 1, 6, 8, 2), (8, 0, 2, 5, 2)), (-5, 0, 1, 2, 0)
        with self.assertRaises(TooLarge):
            connects(matrix, cost, least_test_set(matrix, cost))


class Wrong(unittest.TestCase):
    """The errors, and their order"""

    def check_errors(self, function, good, wrongs):
        function(*good)
        for arguments, error in wrong_calls(good, wrongs):
            with self.subTest(function.__name__, arguments=arguments):
                with self.assertRaises(error):
                    function(*arguments)

    LISTS = [(2, MOVES + MOVES[1:2], NotMoves), (2, [MOVES[0][::-1]], NotMoves),
             (2, [((0, 0, 2), (0, 1, 0))], NotMoves)]

    def test_lists(self):
        for function in (meetings, bad_meeting, connects):
            self.check_errors(function, (TWISTED, COST, MOVES), START + self.LISTS)
        self.check_errors(is_good, (TWISTED, COST, MOVES, 0, 1),
                          START + self.LISTS + [(4, 3, BadNumber), (3, -1, BadNumber)])

    def test_vectors(self):
        ones = [(3, vector, NotVector) for vector in NO_SOLUTIONS]
        others = [(4, vector, NotVector) for vector in NO_SOLUTIONS]
        self.check_errors(walk_between, (TWISTED, COST, MOVES, (0, 2, 1, 0), (1, 0, 2, 0)),
                          START + ones + others + self.LISTS)

    def test_the_graver_list_comes_last(self):
        good = (WIDE, (0,) * 6, [])
        wrongs = [(0, ((9, 8, 7, 6, 5, 10),), NotMatrix), (0, ((9, 8, 7, 6, 5, -4),), NotPointed),
                  (1, (0,) * 5, NotCost), (2, [((0,) * 6, (0,) * 6)], NotMoves)]
        for arguments, error in wrong_calls(good, wrongs):
            with self.assertRaises(error):
                connects(*arguments)
        self.assertEqual(meetings(*good), [])
        self.assertIsNone(bad_meeting(*good))
        self.assertEqual(walk_between(*good, (0,) * 6, (0,) * 6), [])

    def test_fresh_lists_and_unchanged_arguments(self):
        moves = list(MOVES)
        for call in (lambda: meetings(TWISTED, COST, moves),
                     lambda: walk_between(TWISTED, COST, moves, (0, 2, 1, 0), (1, 0, 2, 0))):
            once = call()
            told = list(once)
            self.assertTrue(told)
            once.clear()
            self.assertEqual(call(), told)
        connects(TWISTED, COST, moves)
        bad_meeting(TWISTED, COST, moves)
        is_good(TWISTED, COST, moves, 0, 1)
        self.assertEqual(moves, MOVES)


if __name__ == "__main__":
    unittest.main()
