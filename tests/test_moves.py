"""Promises [60], [61] and [81]: moves, and going down by them."""

import unittest
from itertools import product
from random import Random

from tallyhull.errors import (
    NoAnswer, NotCost, NotMatrix, NotMoves, NotPointed, NotVector, TooLarge)
from tallyhull.moves import check_moves, go_down, is_move, led, move_of, stands, walked
from tallyhull.testsets import graver_moves, least_test_set
from tests.fibers import (
    LISTED, WIDE, costs_for, dependences_by_hand, first_by_looking, key_of, minus, move_by_hand,
    plus, solutions_by_hand, stands_at, wrong_calls)
from tests.samples import FLAT, GAPPED, TWISTED, image_by_hand

COST = (0, 1, 1, 0)
MOVES = [((0, 0, 2, 0), (0, 1, 0, 1)), ((0, 1, 1, 0), (1, 0, 0, 1)), ((0, 2, 0, 0), (1, 0, 1, 0))]
RINGS = ((1, 1, -1, -1), (1, -1, 1, -1))
BAD = ((1, 1, 1, 10), (0, 1, 2, 3))
START = [(0, BAD, NotMatrix), (0, RINGS, NotPointed), (1, (0, 0, 0), NotCost),
         (1, (0, 0, 0, 51), NotCost)]
NO_SOLUTIONS = [(), (1, 2, 3), (1, 2, 3, 4, 5), (1, 1, -1, 1)]


def is_move_by_hand(matrix, cost, move):
    """[60], as it stands there."""
    head, tail = move
    many = len(matrix[0])
    return (len(head) == len(tail) == many and min(head + tail) >= 0 and head != tail
            and image_by_hand(matrix, head) == image_by_hand(matrix, tail)
            and not any(a > 0 and b > 0 for a, b in zip(head, tail))
            and key_of(cost, tail) < key_of(cost, head))


def down_by_hand(moves, vector):
    """[61], as it stands there."""
    chain = []
    while True:
        ready = [k for k, (head, _) in enumerate(moves) if stands_at(head, vector)]
        if not ready:
            return vector, chain
        chain.append(ready[0])
        vector = plus(minus(vector, moves[ready[0]][0]), moves[ready[0]][1])


class Moves(unittest.TestCase):
    """[60]"""

    def test_small_pairs_against_the_words(self):
        for matrix in (((1, 1, 1), (0, 1, 2)), ((1, 2, 3),), ((2, 3),), ((1, 1),), ((1,),)):
            many = len(matrix[0])
            for cost in costs_for(matrix):
                for head in product(range(3), repeat=many):
                    for tail in product(range(-1, 3), repeat=many):
                        move = (head, tail)
                        told = is_move_by_hand(matrix, cost, move)
                        self.assertIs(is_move(matrix, cost, move), told, (matrix, cost, move))

    def test_by_hand(self):
        for head, tail, told in [
                ((0, 0, 2, 0), (0, 1, 0, 1), True), ((0, 1, 0, 1), (0, 0, 2, 0), False),
                ((0, 1, 2, 0), (0, 2, 0, 1), False), ((0, 0, 2, 0), (0, 1, 1, 0), False),
                ((0, 0, 2, 0), (1, 0, 0, 1), False), ((0, 0, 0, 0), (0, 0, 0, 0), False),
                ((0, 0, 2, 0), (0, 0, 2, 0), False), ((0, 3, 0, 0), (2, 0, 0, 1), True),
                ((0, 0, -2, 0), (0, -1, 0, -1), False), ((0, 1, 0, 1), (0, 0, -2, 0), False),
                ((0, 1, -2, 1), (0, 0, 0, 0), False), ((0, 0, 2), (0, 1, 0), False),
                ((), (), False), ((0, 0, 2, 0), (0, 1, 0, 1, 0), False),
                ((0, 0, 2 * 10 ** 30, 0), (0, 10 ** 30, 0, 10 ** 30), True)]:
            with self.subTest(head=head, tail=tail):
                self.assertIs(is_move(TWISTED, COST, (head, tail)), told)

    def test_equal_prices(self):
        # With equal prices the less tuple comes before.
        for cost in [(0, 0), (1, 1), (-7, -7)]:
            self.assertIs(is_move(((1, 1),), cost, ((1, 0), (0, 1))), True)
            self.assertIs(is_move(((1, 1),), cost, ((0, 1), (1, 0))), False)
        self.assertIs(is_move(((1, 1),), (0, 1), ((0, 1), (1, 0))), True)
        self.assertIs(is_move(((1, 1),), (0, 1), ((1, 0), (0, 1))), False)
        self.assertEqual(move_of(((1, 1),), (5, 5), (-2, 2)), ((2, 0), (0, 2)))

    def test_the_move_of_a_vector(self):
        for matrix in (TWISTED, GAPPED, FLAT, ((1, 2, 3),), ((2, 3),), ((1, 1, 1),)):
            for cost in costs_for(matrix):
                for vector in dependences_by_hand(matrix, 3):
                    move = move_of(matrix, cost, vector)
                    self.assertEqual(move, move_by_hand(cost, vector))
                    self.assertIs(is_move(matrix, cost, move), True)
                    other = tuple(-entry for entry in vector)
                    self.assertEqual(move_of(matrix, cost, other), move)
                    self.assertIn(minus(*move), (vector, other))
                    self.assertIs(is_move(matrix, cost, move[::-1]), False)

    def test_the_move_of_what_has_none(self):
        for vector in [(0, 0, 0, 0), (1, 0, 0, 0), (1, -2, 1, 1), (5, 5, 5, 5)]:
            with self.assertRaises(NoAnswer):
                move_of(TWISTED, COST, vector)
        great = 10 ** 40
        self.assertEqual(move_of(((2, 3),), (0, 1), (3 * great, -2 * great)),
                         ((0, 2 * great), (3 * great, 0)))

    def test_lists(self):
        self.assertIsNone(check_moves(TWISTED, COST, []))
        self.assertIsNone(check_moves(TWISTED, COST, MOVES))
        self.assertIsNone(check_moves(TWISTED, COST, MOVES[::-1]))
        # Moves with one head and different tails are different moves.
        self.assertIsNone(check_moves(((1, 1, 1),), (2, 1, 0), [
            ((1, 0, 0), (0, 1, 0)), ((1, 0, 0), (0, 0, 1)), ((2, 0, 0), (0, 1, 1))]))
        for moves in [MOVES + MOVES[:1], [MOVES[0], MOVES[0]], [MOVES[0][::-1]],
                      MOVES + [((0, 0, 0, 0), (0, 0, 0, 0))], [((0, 0, 2), (0, 1, 0))],
                      MOVES + [((0, 1, 2, 0), (0, 2, 0, 1))], [((), ())],
                      [()], [MOVES[0][:1]], [MOVES[0] + MOVES[1]], MOVES + [((0, 0, 2, 0),) * 3]]:
            with self.subTest(moves):
                with self.assertRaises(NotMoves):
                    check_moves(TWISTED, COST, moves)


class Standing(unittest.TestCase):
    """[61]"""

    def test_small_vectors(self):
        for move in MOVES:
            for vector in product(range(4), repeat=4):
                ready = stands_at(move[0], vector)
                self.assertIs(stands(TWISTED, COST, move, vector), ready)
                if ready:
                    found = led(TWISTED, COST, move, vector)
                    self.assertEqual(found, plus(minus(vector, move[0]), move[1]))
                    self.assertEqual(image_by_hand(TWISTED, found), image_by_hand(TWISTED, vector))
                    self.assertLess(key_of(COST, found), key_of(COST, vector))
                    self.assertGreaterEqual(min(found), 0)
                else:
                    with self.assertRaises(NoAnswer):
                        led(TWISTED, COST, move, vector)

    def test_by_hand(self):
        self.assertIs(stands(TWISTED, COST, MOVES[0], (0, 0, 2, 0)), True)
        self.assertIs(stands(TWISTED, COST, MOVES[0], (9, 9, 1, 9)), False)
        self.assertEqual(led(TWISTED, COST, MOVES[0], (0, 0, 2, 0)), (0, 1, 0, 1))
        self.assertEqual(led(TWISTED, COST, MOVES[0], (1, 0, 10 ** 30, 0)), (1, 1, 10 ** 30 - 2, 1))

    def test_what_is_no_move(self):
        for move in [MOVES[0][::-1], ((0, 0, 0, 0), (0, 0, 0, 0)), ((0, 1, 2, 0), (0, 2, 0, 1))]:
            for function in (stands, led):
                with self.assertRaises(NotMoves):
                    function(TWISTED, COST, move, (5, 5, 5, 5))


class GoingDown(unittest.TestCase):
    """[61]"""

    def test_the_first_move_that_stands_is_done_each_time(self):
        source = Random(61)
        for matrix in (TWISTED, GAPPED, ((1, 2, 3),), ((1, 1, 1),), ((2, 3),), FLAT):
            near = dependences_by_hand(matrix, 3)
            for cost in costs_for(matrix):
                for _ in range(12):
                    moves = list({move_by_hand(cost, v): 1
                                  for v in source.sample(near, min(len(near), source.randint(1, 6)))})
                    source.shuffle(moves)
                    vector = tuple(source.randint(0, 9) for _ in matrix[0])
                    found = go_down(matrix, cost, moves, vector)
                    self.assertEqual(found, down_by_hand(moves, vector))
                    self.assertIsInstance(found[1], list)
                    self.assertEqual(walked(matrix, cost, moves, vector, found[1]), found[0])

    def test_no_moves(self):
        self.assertEqual(go_down(TWISTED, COST, [], (1, 2, 3, 4)), ((1, 2, 3, 4), []))
        self.assertEqual(go_down(((1,),), (0,), [], (7,)), ((7,), []))

    def test_chains_of_several_moves(self):
        self.assertEqual(go_down(TWISTED, COST, MOVES, (0, 0, 4, 0)), ((1, 0, 1, 2), [0, 0, 2]))
        self.assertEqual(go_down(TWISTED, COST, MOVES[::-1], (0, 0, 4, 0)), ((1, 0, 1, 2), [2, 1]))
        self.assertEqual(go_down(TWISTED, COST, MOVES[2:], (0, 0, 4, 0)), ((0, 0, 4, 0), []))

    def test_a_chain_of_more_than_5000(self):
        moves = [((0, 1), (1, 0))]
        end, chain = go_down(((1, 1),), (0, 1), moves, (0, 5000))
        self.assertEqual((end, chain), ((5000, 0), [0] * 5000))
        for vector in [(0, 5001), (7, 5001), (0, 10 ** 30)]:
            with self.assertRaises(TooLarge):
                go_down(((1, 1),), (0, 1), moves, vector)
        self.assertEqual(go_down(((1, 1),), (0, 1), moves, (10 ** 30, 2)), ((10 ** 30 + 2, 0), [0, 0]))

    def test_rows_of_indexes(self):
        start = (0, 2, 2, 0)
        self.assertEqual(walked(TWISTED, COST, MOVES, start, []), start)
        self.assertEqual(walked(TWISTED, COST, MOVES, start, [1, 1]), (2, 0, 0, 2))
        self.assertEqual(walked(TWISTED, COST, MOVES, start, (1, 1)), (2, 0, 0, 2))
        self.assertEqual(walked(TWISTED, COST, MOVES, start, [2, 0]), (1, 1, 1, 1))
        self.assertEqual(walked(TWISTED, COST, MOVES, start, [0, 2, 1]), (2, 0, 0, 2))
        for chain in [[3], [-1], [1, -1], [0, 0], [1, 1, 1], [10 ** 30], [-3], [0, 1, 2, 0]]:
            with self.subTest(chain):
                with self.assertRaises(NoAnswer):
                    walked(TWISTED, COST, MOVES, start, chain)
        for chain in [[0], [-1]]:
            with self.assertRaises(NoAnswer):
                walked(TWISTED, COST, [], start, chain)

    def test_other_rows_lead_down_too(self):
        for chain in product(range(3), repeat=3):
            vector = (0, 3, 3, 0)
            here = vector
            for k in chain:
                if not stands_at(MOVES[k][0], here):
                    break
                here = plus(minus(here, MOVES[k][0]), MOVES[k][1])
            else:
                self.assertEqual(walked(TWISTED, COST, MOVES, vector, chain), here)
                self.assertLess(key_of(COST, here), key_of(COST, vector))


class ByTestSets(unittest.TestCase):
    """[81]"""

    def test_any_solution_goes_down_to_the_first_one(self):
        for matrix in LISTED[::2]:
            most = 3 if len(matrix[0]) < 5 else 1
            for cost in costs_for(matrix)[:4]:
                sets = [least_test_set(matrix, cost), graver_moves(matrix, cost)]
                for vector in list(product(range(most + 1), repeat=len(matrix[0])))[::5]:
                    first = first_by_looking(matrix, cost, vector)
                    for moves in sets:
                        self.assertEqual(go_down(matrix, cost, moves, vector)[0], first)

    def test_one_end_for_one_side_alone(self):
        for matrix, side, other in [(TWISTED, (5, 8), (5, 7)), (((2, 3),), (24,), (25,)),
                                    (((1, 2, 3),), (8,), (9,))]:
            for cost in costs_for(matrix):
                moves = least_test_set(matrix, cost)
                ends = {go_down(matrix, cost, moves, x)[0] for x in solutions_by_hand(matrix, side)}
                others = {go_down(matrix, cost, moves, x)[0] for x in solutions_by_hand(matrix, other)}
                self.assertEqual((len(ends), len(others), len(ends & others)), (1, 1, 0))


class Wrong(unittest.TestCase):
    """The errors, and their order"""

    def check_errors(self, function, good, wrongs):
        function(*good)
        for arguments, error in wrong_calls(good, wrongs):
            with self.subTest(function.__name__, arguments=arguments):
                with self.assertRaises(error):
                    function(*arguments)

    def test_one_move(self):
        self.check_errors(is_move, (TWISTED, COST, MOVES[0]), START)
        vectors = [(3, vector, NotVector) for vector in NO_SOLUTIONS]
        moves = [(2, MOVES[0][::-1], NotMoves), (2, ((0, 0, 2), (0, 1, 0)), NotMoves)]
        good = (TWISTED, COST, MOVES[0], (0, 1, 2, 0))
        self.check_errors(stands, good, START + vectors + moves)
        self.check_errors(led, good, START + vectors + moves + [(3, (5, 5, 1, 5), NoAnswer)])

    def test_vectors(self):
        vectors = [(2, vector, NotVector) for vector in NO_SOLUTIONS[:3]]
        self.check_errors(move_of, (TWISTED, COST, (1, -2, 1, 0)),
                          START + vectors + [(2, (0, 0, 0, 0), NoAnswer)])

    def test_lists(self):
        lists = [(2, MOVES + MOVES[1:2], NotMoves), (2, [MOVES[0][::-1]], NotMoves)]
        self.check_errors(check_moves, (TWISTED, COST, MOVES), START + lists)
        vectors = [(3, vector, NotVector) for vector in NO_SOLUTIONS]
        self.check_errors(go_down, (TWISTED, COST, MOVES, (0, 1, 2, 0)), START + vectors + lists)
        self.check_errors(walked, (TWISTED, COST, MOVES, (0, 1, 2, 0), [0]),
                          START + vectors + lists + [(4, [3], NoAnswer)])

    def test_the_graver_list_is_not_needed(self):
        zeros = (0,) * 6
        move = ((0, 0, 0, 0, 4, 0), (0, 0, 0, 0, 0, 5))
        self.assertIs(is_move(WIDE, (0, 0, 0, 0, 1, 0), move), True)
        self.assertEqual(go_down(WIDE, (0, 0, 0, 0, 1, 0), [move], zeros), (zeros, []))

    def test_fresh_lists_and_unchanged_arguments(self):
        moves = list(MOVES)
        chain = [0, 2]
        once = go_down(TWISTED, COST, moves, (0, 1, 4, 0))
        told = (once[0], list(once[1]))
        once[1].append(5)
        self.assertEqual(go_down(TWISTED, COST, moves, (0, 1, 4, 0)), told)
        walked(TWISTED, COST, moves, (0, 2, 2, 0), chain)
        check_moves(TWISTED, COST, moves)
        self.assertEqual((moves, chain), (MOVES, [0, 2]))


if __name__ == "__main__":
    unittest.main()
