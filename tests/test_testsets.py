"""Promises [62], [63], [66] to [69]: test sets, least ones, papers, and completing."""

import unittest
from itertools import product
from random import Random

from tallyhull.errors import NoAnswer, NotCost, NotMatrix, NotMoves, NotPointed, TooLarge
from tallyhull.graver import graver_list
from tallyhull.meetings import bad_meeting, connects
from tallyhull.moves import move_of
from tallyhull.testsets import (
    completed, graver_moves, is_least, is_test_paper, is_test_set, least_test_set, test_fault,
    test_paper)
from tests.fibers import (
    ALONE, LIMIT, LISTED, OVER, WIDE, costs_for, first_by_looking, minus, move_by_hand, stands_at,
    wrong_calls)
from tests.samples import FLAT, GAPPED, TWISTED, image_by_hand
from tests.test_moves import COST, MOVES, START

SHORT = ((1, 1, 1), (0, 1, 2))
CUBIC = (-2, -2, -1, -2)        # with it the least test set of TWISTED has four moves
CUBIC_MOVES = [((0, 0, 2, 0), (0, 1, 0, 1)), ((0, 1, 1, 0), (1, 0, 0, 1)),
               ((1, 0, 1, 0), (0, 2, 0, 0)), ((2, 0, 0, 1), (0, 3, 0, 0))]
PLAIN = [TWISTED, GAPPED, FLAT, SHORT, ((1, 2, 3),), ((3, 4, 5),), ((2, 3),), ((1, 1, 1, 1),),
         ((1, 2, 1, 2), (1, 2, 3, 6)), ((3, 0, 3), (1, 2, 1)), ((1, 2, 3), (2, 4, 6), (0, 1, 5)),
         ((5, -2, 1), (-1, 1, 0)), ((1,),), ((1, 1, 1, 1), (0, 1, 0, 1), (0, 0, 1, 1))]


def stuck_by_hand(matrix, cost, moves, most):
    """A vector with small entries that is no first solution, and at which no move stands."""
    for vector in product(range(most + 1), repeat=len(matrix[0])):
        if not any(stands_at(head, vector) for head, _ in moves):
            if first_by_looking(matrix, cost, vector) != vector:
                return vector
    return None


def least_by_hand(matrix, cost, most):
    """[66]: the vectors with small entries that are not first, though all below them are."""
    found = []
    for vector in sorted(product(range(most + 1), repeat=len(matrix[0])), key=sum):
        if not any(stands_at(head, vector) for head, _ in found):
            first = first_by_looking(matrix, cost, vector)
            if first != vector:
                found.append((vector, first))
    return sorted(found)


def paper_by_hand(matrix, cost, moves):
    """[68]: the least index for each vector of the Graver list, in its order."""
    found = []
    for vector in graver_list(matrix):
        head = move_by_hand(cost, vector)[0]
        found.append(next((k for k, move in enumerate(moves) if stands_at(move[0], head)), None))
    return None if None in found else tuple(found)


class GraverMoves(unittest.TestCase):
    """[63]"""

    def test_the_moves_of_the_graver_list(self):
        for matrix in LISTED:
            for cost in costs_for(matrix)[:4]:
                found = graver_moves(matrix, cost)
                self.assertIsInstance(found, list)
                self.assertEqual(found, sorted(move_by_hand(cost, v) for v in graver_list(matrix)))

    def test_they_are_a_test_set(self):
        for matrix in LISTED + [LIMIT]:
            for cost in costs_for(matrix)[:3]:
                self.assertIs(is_test_set(matrix, cost, graver_moves(matrix, cost)), True)

    def test_by_hand(self):
        self.assertEqual(graver_moves(TWISTED, COST), sorted(MOVES + [
            ((0, 0, 3, 0), (1, 0, 0, 2)), ((0, 3, 0, 0), (2, 0, 0, 1))]))
        self.assertEqual(graver_moves(((1, 1, 1),), (0, 0, 0)), [
            ((0, 1, 0), (0, 0, 1)), ((1, 0, 0), (0, 0, 1)), ((1, 0, 0), (0, 1, 0))])
        for matrix in ALONE:
            self.assertEqual(graver_moves(matrix, (0,) * len(matrix[0])), [])


class TestSets(unittest.TestCase):
    """[62] and [63]"""

    def test_against_all_small_vectors(self):
        source = Random(62)
        told = {True: 0, False: 0}
        for matrix in PLAIN:
            most = {1: 9, 2: 8, 3: 7, 4: 4}[len(matrix[0])]
            for cost in costs_for(matrix):
                every = graver_moves(matrix, cost)
                for _ in range(6):
                    moves = source.sample(every, source.randint(0, len(every)))
                    stuck = stuck_by_hand(matrix, cost, moves, most)
                    answer = is_test_set(matrix, cost, moves)
                    self.assertIs(answer, stuck is None, (matrix, cost, moves))
                    told[answer] += 1
        self.assertGreater(min(told.values()), 20)

    def test_where_a_list_is_at_fault(self):
        source = Random(63)
        for matrix in PLAIN + LISTED[::5]:
            for cost in costs_for(matrix)[:3]:
                every = graver_moves(matrix, cost)
                moves = source.sample(every, source.randint(0, len(every)))
                wanted = next((move for move in every
                               if not any(stands_at(head, move[0]) for head, _ in moves)), None)
                self.assertEqual(test_fault(matrix, cost, moves), wanted)
                self.assertIs(is_test_set(matrix, cost, moves), wanted is None)

    def test_changed_lists(self):
        for matrix in PLAIN:
            for cost in costs_for(matrix):
                least = least_test_set(matrix, cost)
                self.assertIs(is_test_set(matrix, cost, least), True)
                self.assertIs(is_test_set(matrix, cost, least[::-1]), True)
                self.assertIsNone(test_fault(matrix, cost, least))
                for k, move in enumerate(least):
                    fewer = least[:k] + least[k + 1:]
                    self.assertIs(is_test_set(matrix, cost, fewer), False)
                    self.assertTrue(stands_at(move[0], test_fault(matrix, cost, fewer)[0]))
                    more = least + [tuple(tuple(2 * entry for entry in v) for v in move)]
                    self.assertIs(is_test_set(matrix, cost, more), True)
                    with self.assertRaises(NotMoves):
                        is_test_set(matrix, cost, least + [move])

    def test_the_empty_list(self):
        for matrix in ALONE:
            cost = (0,) * len(matrix[0])
            self.assertIs(is_test_set(matrix, cost, []), True)
            self.assertIsNone(test_fault(matrix, cost, []))
        self.assertIs(is_test_set(TWISTED, COST, []), False)
        self.assertEqual(test_fault(TWISTED, COST, []), ((0, 0, 2, 0), (0, 1, 0, 1)))
        self.assertIs(is_test_set(FLAT, (0, 0), []), False)

    def test_moves_that_are_not_in_the_graver_list(self):
        # Heads that stand are enough, whatever the tails are.
        moves = [((1, 0, 0), (0, 0, 1)), ((0, 1, 0), (0, 0, 1)), ((2, 0, 0), (0, 1, 1))]
        self.assertIs(is_test_set(((1, 1, 1),), (2, 1, 0), moves), True)
        self.assertIs(is_test_set(((1, 1),), (0, 1), [((0, 2), (2, 0))]), False)


class Least(unittest.TestCase):
    """[66]"""

    def test_against_all_small_vectors(self):
        for matrix in PLAIN:
            most = {1: 9, 2: 8, 3: 7, 4: 4}[len(matrix[0])]
            for cost in costs_for(matrix) + costs_for(matrix, 3):
                found = least_test_set(matrix, cost)
                self.assertIsInstance(found, list)
                self.assertLessEqual(max([0] + [max(head) for head, _ in found]), most)
                self.assertEqual(found, least_by_hand(matrix, cost, most), (matrix, cost))

    def test_its_form(self):
        for matrix in LISTED + [LIMIT]:
            for cost in costs_for(matrix)[1:4]:
                found = least_test_set(matrix, cost)
                heads = [head for head, _ in found]
                self.assertEqual(heads, sorted(set(heads)))
                for one, other in product(heads, repeat=2):
                    self.assertFalse(one != other and stands_at(one, other))
                for head, tail in found:
                    self.assertEqual(first_by_looking(matrix, cost, head), tail)
                self.assertIs(is_test_set(matrix, cost, found), True)
                self.assertIs(is_least(matrix, cost, found), True)
                self.assertEqual(found == [], graver_list(matrix) == [])

    def test_its_heads_are_those_of_the_graver_list_with_no_other_one_within(self):
        for matrix in LISTED:
            for cost in costs_for(matrix):
                heads = {head for head, _ in graver_moves(matrix, cost)}
                least = sorted(head for head in heads
                               if not any(stands_at(o, head) for o in heads if o != head))
                self.assertEqual([head for head, _ in least_test_set(matrix, cost)], least)

    def test_by_hand(self):
        self.assertEqual(least_test_set(TWISTED, COST), MOVES)
        self.assertEqual(least_test_set(TWISTED, CUBIC), CUBIC_MOVES)
        self.assertEqual(least_test_set(((2, 3),), (1, 1)), [((3, 0), (0, 2))])
        self.assertEqual(least_test_set(((2, 3),), (0, 1)), [((0, 2), (3, 0))])
        self.assertEqual(least_test_set(((1, 1, 1),), (0, 0, 0)), [
            ((0, 1, 0), (0, 0, 1)), ((1, 0, 0), (0, 0, 1))])
        for matrix in ALONE:
            self.assertEqual(least_test_set(matrix, (7,) * len(matrix[0])), [])

    def test_what_is_not_the_least(self):
        for moves in [[], MOVES[1:], MOVES[:2], MOVES[::-1], [MOVES[1], MOVES[0], MOVES[2]],
                      MOVES + [((0, 3, 0, 0), (2, 0, 0, 1))], graver_moves(TWISTED, COST)]:
            self.assertIs(is_least(TWISTED, COST, moves), False)
        self.assertIs(is_least(TWISTED, COST, list(MOVES)), True)
        # The tail is no first solution.
        self.assertIs(is_least(((1, 1, 1),), (2, 1, 0), [
            ((0, 1, 0), (0, 0, 1)), ((1, 0, 0), (0, 1, 0))]), False)
        self.assertIs(is_least(((1, 1, 1),), (2, 1, 0), [
            ((0, 1, 0), (0, 0, 1)), ((1, 0, 0), (0, 0, 1))]), True)
        for matrix in ALONE:
            self.assertIs(is_least(matrix, (0,) * len(matrix[0]), []), True)
        with self.assertRaises(NotMoves):
            is_least(TWISTED, COST, MOVES + MOVES[:1])


class Papers(unittest.TestCase):
    """[68]"""

    def test_the_paper_with_the_least_indexes(self):
        source = Random(69)
        for matrix in PLAIN + LISTED[::4]:
            for cost in costs_for(matrix)[:4]:
                every = graver_moves(matrix, cost)
                moves = source.sample(every, source.randint(len(every) // 2, len(every)))
                found = test_paper(matrix, cost, moves)
                self.assertEqual(found, paper_by_hand(matrix, cost, moves))
                self.assertIs(found is not None, is_test_set(matrix, cost, moves))
                if found is not None:
                    self.assertIsInstance(found, tuple)
                    self.assertIs(is_test_paper(matrix, cost, moves, found), True)

    def test_by_hand(self):
        # The heads of the Graver list in order: those of the indexes 0, 2, 1 and cubes of the two.
        self.assertEqual(test_paper(TWISTED, COST, MOVES), (0, 2, 1, 0, 2))
        self.assertEqual(test_paper(TWISTED, COST, MOVES[::-1]), (2, 0, 1, 2, 0))
        self.assertIsNone(test_paper(TWISTED, COST, MOVES[1:]))
        self.assertIsNone(test_paper(TWISTED, COST, []))
        for matrix in ALONE:
            self.assertEqual(test_paper(matrix, (0,) * len(matrix[0]), []), ())
            self.assertIs(is_test_paper(matrix, (0,) * len(matrix[0]), [], ()), True)
            self.assertIs(is_test_paper(matrix, (0,) * len(matrix[0]), [], (0,)), False)

    def test_changed_papers(self):
        good = (0, 2, 1, 0, 2)
        self.assertIs(is_test_paper(TWISTED, COST, MOVES, good), True)
        for paper in [(), good[:-1], good[1:], good + (0,), (0, 2, 1, 0, 3), (0, 2, 1, 0, -1),
                      (-3, 2, 1, 0, 2), (1, 2, 1, 0, 2), (0, 1, 1, 0, 2), (0, 2, 0, 0, 2),
                      (2, 0, 1, 2, 0), (0, 0, 0, 0, 0), (10 ** 30, 2, 1, 0, 2)]:
            with self.subTest(paper):
                self.assertIs(is_test_paper(TWISTED, COST, MOVES, paper), False)

    def test_each_index_alone(self):
        every = graver_moves(TWISTED, COST)
        good = test_paper(TWISTED, COST, every)
        for at, vector in enumerate(graver_list(TWISTED)):
            head = move_by_hand(COST, vector)[0]
            for k in range(-1, len(every) + 1):
                paper = good[:at] + (k,) + good[at + 1:]
                told = 0 <= k < len(every) and stands_at(every[k][0], head)
                self.assertIs(is_test_paper(TWISTED, COST, every, paper), told)

    def test_costs_with_the_same_comparisons(self):
        for matrix in PLAIN:
            for cost in [(k % 3 for k in range(len(matrix[0]))), (k * k for k in range(len(matrix[0])))]:
                cost = tuple(cost)
                least = least_test_set(matrix, cost)
                every = graver_moves(matrix, cost)
                for times, rows in product((1, 2, 5), product((-1, 0, 2), repeat=len(matrix))):
                    other = tuple(times * c + sum(y * row[k] for y, row in zip(rows, matrix))
                                  for k, c in enumerate(cost))
                    if max(map(abs, other)) > 50:
                        continue
                    self.assertEqual(graver_moves(matrix, other), every)
                    self.assertEqual(least_test_set(matrix, other), least)
                    self.assertIs(is_test_set(matrix, other, least), True)
                    self.assertEqual(test_paper(matrix, other, least), test_paper(matrix, cost, least))


class Completing(unittest.TestCase):
    """[67]"""

    def test_lists_that_connect(self):
        source = Random(70)
        for matrix in PLAIN + LISTED[::6]:
            for cost in costs_for(matrix)[:4]:
                least = least_test_set(matrix, cost)
                every = graver_moves(matrix, cost)
                self.assertEqual(completed(matrix, cost, least), least)
                self.assertEqual(completed(matrix, cost, every), least)
                moves = list(every)
                source.shuffle(moves)
                for move in list(moves):
                    fewer = [other for other in moves if other != move]
                    if connects(matrix, cost, fewer):
                        moves = fewer
                        self.assertEqual(completed(matrix, cost, moves), least)
                    else:
                        with self.assertRaises(NoAnswer):
                            completed(matrix, cost, fewer)

    def test_the_least_test_set_of_another_cost(self):
        # It connects the matrix, too, if its moves are turned where this is due.
        for matrix in PLAIN + LISTED[::6]:
            for cost, other in zip(costs_for(matrix), costs_for(matrix, 2)[::-1]):
                moves = [move_of(matrix, cost, minus(*move))
                         for move in least_test_set(matrix, other)]
                self.assertEqual(completed(matrix, cost, moves), least_test_set(matrix, cost))

    def test_by_hand(self):
        # Three moves connect, the fourth one comes from a meeting that is not good.
        self.assertIs(is_test_set(TWISTED, CUBIC, CUBIC_MOVES[:3]), False)
        self.assertIsNotNone(bad_meeting(TWISTED, CUBIC, CUBIC_MOVES[:3]))
        self.assertEqual(completed(TWISTED, CUBIC, CUBIC_MOVES[:3]), CUBIC_MOVES)
        self.assertEqual(completed(TWISTED, CUBIC, CUBIC_MOVES[2::-1]), CUBIC_MOVES)
        self.assertEqual(completed(((1, 1, 1),), (2, 1, 0), [
            ((1, 0, 0), (0, 1, 0)), ((1, 0, 0), (0, 0, 1))]), [
            ((0, 1, 0), (0, 0, 1)), ((1, 0, 0), (0, 0, 1))])
        for matrix in ALONE:
            self.assertEqual(completed(matrix, (0,) * len(matrix[0]), []), [])

    def test_lists_that_do_not_connect(self):
        for moves in [[], MOVES[1:], MOVES[:1], [((0, 0, 4, 0), (0, 2, 0, 2))]]:
            with self.assertRaises(NoAnswer):
                completed(TWISTED, COST, moves)

    def test_more_than_400_moves(self):
        line, cost = ((1, 1),), (0, 1)
        moves = [((0, k), (k, 0)) for k in range(1, 402)]
        self.assertEqual(completed(line, cost, moves[:400]), moves[:1])
        with self.assertRaises(TooLarge):
            completed(line, cost, moves)
        with self.assertRaises(NoAnswer):
            completed(line, cost, moves[1:])
        # With multiples of its moves, a list that wants one more has 399 or 400 moves.
        more = [(tuple(k * x for x in head), tuple(k * x for x in tail))
                for k in range(2, 400) for head, tail in CUBIC_MOVES[:1]]
        self.assertEqual(completed(TWISTED, CUBIC, CUBIC_MOVES[:3] + more[:396]), CUBIC_MOVES)
        with self.assertRaises(TooLarge):
            completed(TWISTED, CUBIC, CUBIC_MOVES[:3] + more[:397])


class Example(unittest.TestCase):
    """[69]"""

    def test_word_for_word(self):
        matrix = ((1, 1, 1), (0, 1, 2))
        self.assertEqual(graver_list(matrix), [(1, -2, 1)])
        self.assertEqual(least_test_set(matrix, (0, 0, 1)), [((1, 0, 1), (0, 2, 0))])
        self.assertEqual(least_test_set(matrix, (0, 1, 0)), [((0, 2, 0), (1, 0, 1))])
        found = least_test_set(((1, 1, 1, 1), (0, 1, 2, 3)), (0, 1, 1, 0))
        self.assertEqual([head for head, _ in found], [(0, 0, 2, 0), (0, 1, 1, 0), (0, 2, 0, 0)])


class Wrong(unittest.TestCase):
    """The errors, and their order"""

    def check_errors(self, function, good, wrongs):
        for arguments, error in wrong_calls(good, wrongs):
            with self.subTest(function.__name__, arguments=arguments):
                with self.assertRaises(error):
                    function(*arguments)

    LISTS = [(2, MOVES + MOVES[1:2], NotMoves), (2, [MOVES[0][::-1]], NotMoves),
             (2, [((0, 0, 2), (0, 1, 0))], NotMoves)]
    OF_LISTS = (is_test_set, test_fault, is_least, test_paper, completed)

    def test_without_lists(self):
        for function in (graver_moves, least_test_set):
            self.check_errors(function, (TWISTED, COST), START)

    def test_with_lists(self):
        for function in self.OF_LISTS:
            self.check_errors(function, (TWISTED, COST, MOVES), START + self.LISTS)
        self.check_errors(is_test_paper, (TWISTED, COST, MOVES, (0, 2, 1, 0, 2)), START + self.LISTS)
        self.check_errors(completed, (TWISTED, COST, MOVES), START + self.LISTS + [(2, [], NoAnswer)])

    def test_the_graver_list_comes_last(self):
        wrongs = [(0, ((9, 8, 7, 6, 5, 10),), NotMatrix), (0, ((9, 8, 7, 6, 5, -4),), NotPointed),
                  (1, (0,) * 5, NotCost)]
        for function in (graver_moves, least_test_set):
            self.check_errors(function, (WIDE, (0,) * 6), wrongs)
            for matrix in (WIDE, OVER):
                with self.assertRaises(TooLarge):
                    function(matrix, (0,) * 6)
        wrongs = wrongs + [(2, [((0,) * 6, (0,) * 6)], NotMoves)]
        for function in self.OF_LISTS:
            self.check_errors(function, (WIDE, (0,) * 6, []), wrongs)
            with self.assertRaises(TooLarge):
                function(WIDE, (0,) * 6, [])
        self.check_errors(is_test_paper, (WIDE, (0,) * 6, [], ()), wrongs)
        with self.assertRaises(TooLarge):
            is_test_paper(WIDE, (0,) * 6, [], ())

    def test_fresh_lists_and_unchanged_arguments(self):
        moves = CUBIC_MOVES[:3]
        told = list(moves)
        for call in (lambda: graver_moves(TWISTED, CUBIC), lambda: least_test_set(TWISTED, CUBIC),
                     lambda: completed(TWISTED, CUBIC, moves)):
            once = call()
            kept = list(once)
            self.assertTrue(kept)
            once.clear()
            self.assertEqual(call(), kept)
        test_paper(TWISTED, CUBIC, moves)
        is_least(TWISTED, CUBIC, moves)
        self.assertEqual(moves, told)
        least = least_test_set(TWISTED, CUBIC)
        self.assertIsNot(completed(TWISTED, CUBIC, least), least)


if __name__ == "__main__":
    unittest.main()
