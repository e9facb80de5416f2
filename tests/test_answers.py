"""Promises [81] to [83] and [88]: side answers, whoever gives them."""

import unittest
from itertools import product

from tallyhull.answers import is_side_answer, same_side, shows, side_answer
from tallyhull.cones import is_in_cone
from tallyhull.errors import NotCost, NotMatrix, NotPointed, NotSide, NotVector, TooLarge
from tallyhull.farkas import is_farkas_paper
from tallyhull.holeboxes import is_hole_paper
from tallyhull.lattices import is_rest_paper, lattice_answer
from tallyhull.moves import walked
from tallyhull.testsets import graver_moves, is_test_set, least_test_set
from tests.fibers import (
    LISTED, WIDE, costs_for, key_of, plus, solutions_by_hand, stands_at, wrong_calls)
from tests.samples import FLAT, GAPPED, SLOPED, TWISTED, all_rows, image_by_hand, sides_near
from tests.test_cheapest import NO_SIDES, some_sides
from tests.test_moves import COST, MOVES, NO_SOLUTIONS, START
from tests.test_testsets import PLAIN

# A matrix with sides outside of the cone, of the lattice, of both, and with holes.
ALL_KINDS = ((2, 2, 2), (0, 1, 3))
ODD = "first", "signs", "rest", "hole"


class Answers(unittest.TestCase):
    """[82] and [83]"""

    def check_answer(self, matrix, cost, side, answer):
        kind = answer[0]
        every = solutions_by_hand(matrix, side)
        self.assertIsInstance(answer, tuple)
        self.assertEqual(kind == "first", bool(every))
        self.assertEqual(shows(answer), "first" if every else "none")
        if kind == "first":
            _, first, moves = answer
            self.assertEqual(first, min(every, key=lambda x: key_of(cost, x)))
            self.assertIsInstance(moves, list)
            self.assertIs(is_test_set(matrix, cost, moves), True)
            self.assertFalse(any(stands_at(head, first) for head, _ in moves))
        elif kind == "signs":
            self.assertEqual(len(answer), 2)
            self.assertIs(is_farkas_paper(matrix, side, answer[1]), True)
        elif kind == "rest":
            self.assertEqual(len(answer), 3)
            self.assertIs(is_rest_paper(matrix, side, *answer[1:]), True)
            self.assertIs(is_in_cone(matrix, side), True)
        else:
            self.assertEqual((kind, len(answer)), ("hole", 3))
            self.assertIs(is_hole_paper(matrix, side, answer[1:]), True)
            self.assertEqual(lattice_answer(matrix, side)[0], "whole")
            self.assertIs(is_in_cone(matrix, side), True)

    def test_small_sides(self):
        counts = dict.fromkeys(ODD, 0)
        for matrix in PLAIN + [ALL_KINDS]:
            for cost in costs_for(matrix)[1:4]:
                for side in some_sides(matrix)[::2]:
                    answer = side_answer(matrix, cost, side)
                    self.check_answer(matrix, cost, side, answer)
                    self.assertIs(is_side_answer(matrix, cost, side, answer), True)
                    counts[answer[0]] += 1
        self.assertGreater(min(counts.values()), 5)

    def test_answers_of_other_sides_and_costs(self):
        # An answer of the first form is right for its own side alone, and never both are right.
        for matrix in [TWISTED, GAPPED, FLAT, SLOPED, ALL_KINDS, ((3, 4, 5),)]:
            cost = costs_for(matrix)[2]
            sides = some_sides(matrix)[::4]
            answers = {side: side_answer(matrix, cost, side) for side in sides}
            for side in sides:
                forms = {shows(answer) for answer in answers.values()
                         if is_side_answer(matrix, cost, side, answer)}
                self.assertEqual(forms, {shows(answers[side])})
                for other, answer in answers.items():
                    told = is_side_answer(matrix, cost, side, answer)
                    if answer[0] in ("first", "hole"):
                        self.assertIs(told, side == other)
                    if answer[0] == "signs":
                        self.assertIs(told, is_farkas_paper(matrix, side, answer[1]))
                    if answer[0] == "rest":
                        self.assertIs(told, is_rest_paper(matrix, side, *answer[1:]))

    def test_signs_come_before_rest(self):
        both = 0
        for side in sides_near(SLOPED, 6):
            answer = side_answer(SLOPED, (0, 0), side)
            outside = not is_in_cone(SLOPED, side)
            told = lattice_answer(SLOPED, side)
            both += outside and told[0] == "rest"
            self.assertEqual(answer[0], "signs" if outside else "first" if told[0] == "whole" else "rest")
            if told[0] == "rest":
                self.assertIs(is_side_answer(SLOPED, (0, 0), side, told), True)
        self.assertGreater(both, 20)

    def test_any_test_set_will_do(self):
        for moves in (MOVES, MOVES[::-1], graver_moves(TWISTED, COST)):
            self.assertIs(
                is_side_answer(TWISTED, COST, (3, 4), ("first", (1, 1, 0, 1), list(moves))), True)

    def test_any_papers_will_do(self):
        for row in all_rows(2, 4):
            self.assertIs(is_side_answer(TWISTED, COST, (1, 4), ("signs", row)),
                          is_farkas_paper(TWISTED, (1, 4), row))
            for m in range(-1, 5):
                self.assertIs(is_side_answer(ALL_KINDS, COST[1:], (3, 4), ("rest", row, m)),
                              is_rest_paper(ALL_KINDS, (3, 4), row, m))
        for hole in sides_near(GAPPED, 5):
            for times in product(range(3), repeat=3):
                told = hole == (1, 2) and times[:2] == (0, 0)
                side = plus(hole, image_by_hand(GAPPED, times))
                self.assertIs(is_side_answer(GAPPED, (0, 0, 0), side, ("hole", hole, times)), told)

    def test_changed_answers(self):
        first = (1, 1, 0, 1)
        for matrix, cost, side, good, wrong in [
                (TWISTED, COST, (3, 4), ("first", first, MOVES), [
                    ("first", (1, 0, 2, 0), MOVES), ("first", (0, 2, 1, 0), MOVES),
                    ("first", (2, 1, 0, 1), MOVES), ("first", (2, 1, -1, 1), MOVES),
                    ("first", (1, 1, 0), MOVES), ("first", (1, 1, 0, 1, 0), MOVES),
                    ("first", (1, 2, -2, 2), MOVES), ("first", [1, 1, 0, 1], MOVES),
                    ("first", "1101", MOVES), ("first", 5, MOVES), ("first", None, MOVES),
                    ("first", first, MOVES[1:]), ("first", first, MOVES[:2]), ("first", first, []),
                    ("first", first, MOVES + MOVES[:1]), ("first", first, MOVES + [()]),
                    ("first", first, [move[::-1] for move in MOVES]), ("first", first, None),
                    ("first", first, MOVES + [((0, 0, 2), (0, 1, 0))]), ("first", first, 7),
                    ("first", first, MOVES + [(0, 0, 2, 0)]), ("first", first, MOVES + [5]),
                    ("first", first, MOVES + [((1, 1, 0, 1), (1, 0, 2, 0))]), ("first", first, ()),
                    ("first", first), ("first", first, MOVES, MOVES), ("first",),
                    ("signs", first, MOVES), ("rest", first, MOVES), ("hole", first, MOVES),
                    ("second", first, MOVES), ("First", first, MOVES), (first, MOVES)]),
                (TWISTED, COST, (1, 4), ("signs", (3, -1)), [
                    ("signs", (-3, 1)), ("signs", (4, -1)), ("signs", (1, -1)), ("signs", (0, 0)),
                    ("signs", (3,)), ("signs", (3, -1, 0)), ("signs", ()), ("signs",), ("signs", 3),
                    ("signs", (3, -1), 0), ("signs", 3, -1), ("signs", None), ("signs", [3, -1]),
                    ("first", (3, -1)), ("rest", (3, -1)), ("rest", (3, -1), 0), ("hole", (3, -1)),
                    ("first", (0, 0, 0, 1), MOVES), ("hole", (1, 4), (0, 0, 0, 0))]),
                (SLOPED, (0, 0), (7, 8), ("rest", (1, 0), 2), [
                    ("rest", (1, 0), 3), ("rest", (0, 1), 2), ("rest", (1, 0), 0), ("rest", (1, 0), 1),
                    ("rest", (1, 0), -2), ("rest", (2, 0), 2), ("rest", (1, 0)), ("rest", (1,), 2),
                    ("rest", (1, 0, 0), 2), ("rest", (1, 0), 2, 2), ("rest", (), 2), ("rest", 1, 2),
                    ("rest", (1, 0), None), ("rest", (1, 0), (2,)), ("rest", (1, 0), "2"),
                    ("rest", [1, 0], 2), ("rest", (1, 0), []), ("signs", (1, 0)), ("hole", (1, 0), 2),
                    ("hole", (7, 8), (0, 0)), ("first", (1, 0), 2), ("first", (1, 1), [])]),
                (GAPPED, (0, 0, 0), (3, 8), ("hole", (1, 2), (0, 0, 2)), [
                    ("hole", (1, 2), (0, 0, 1)), ("hole", (1, 2), (0, 0, 3)), ("hole", (1, 1), (0, 0, 2)),
                    ("hole", (2, 5), (0, 0, 1)), ("hole", (3, 8), (0, 0, 0)), ("hole", (1, 2), (0, 0)),
                    ("hole", (1, 2), (0, 0, 2, 0)), ("hole", (1,), (0, 0, 2)), ("hole", (), ()),
                    ("hole", (1, 2, 0), (0, 0, 2)), ("hole", (1, 2)), ("hole", (1, 2), (0, 0, 2), 1),
                    ("hole", (4, 11), (0, 0, -1)), ("hole", (1, 2), (-1, 0, 3)), ("hole", (1, 2), 2), ("hole", 1, (0, 0, 2)),
                    ("hole", (1, 2), [0, 0, 2]), ("hole", None, None), ("hole",),
                    ("first", (1, 2), (0, 0, 2)), ("rest", (1, 2), (0, 0, 2)),
                    ("first", (0, 1, 2), []), ("signs", (1, 2))])]:
            self.assertIs(is_side_answer(matrix, cost, side, good), True)
            for answer in wrong:
                with self.subTest(answer=answer):
                    self.assertIs(is_side_answer(matrix, cost, side, answer), False)

    def test_a_hole_with_a_stop(self):
        # (2, 3) is the hole (1, 2) and the column (1, 1), which is a stop: it is solved.
        self.assertIs(is_side_answer(GAPPED, (0, 0, 0), (2, 3), ("hole", (1, 2), (0, 1, 0))), False)
        self.assertEqual(side_answer(GAPPED, (0, 0, 0), (2, 3))[:2], ("first", (1, 0, 1)))

    def test_what_an_answer_shows(self):
        self.assertEqual(shows(("first", (1, 1, 0, 1), MOVES)), "first")
        for answer in [("signs", (3, -1)), ("rest", (1, 0), 2), ("hole", (1, 2), (0, 0, 2))]:
            self.assertEqual(shows(answer), "none")

    def test_great_sides(self):
        for side, kind in [((1000000, 1000000), "first"), ((0, 1000000), "signs"),
                           ((-1000000, 0), "signs"), ((300000, 900001), "signs")]:
            answer = side_answer(TWISTED, COST, side)
            self.assertEqual(answer[0], kind)
            self.assertIs(is_side_answer(TWISTED, COST, side, answer), True)
        answer = side_answer(GAPPED, (0, 0, 0), (300000, 899999))
        self.assertEqual(answer[0], "hole")
        self.assertIs(is_side_answer(GAPPED, (0, 0, 0), (300000, 899999), answer), True)
        self.assertEqual(side_answer(SLOPED, (0, 0), (999999, 999999))[0], "rest")
        self.assertEqual(side_answer(SLOPED, (0, 0), (999996, 999996))[:2], ("first", (166666, 166666)))


class SameSide(unittest.TestCase):
    """[81]"""

    def test_two_chains_with_one_end(self):
        for matrix in LISTED[::5] + PLAIN:
            vectors = [tuple((k * seed + seed // 2) % 4 for k in range(1, len(matrix[0]) + 1))
                       for seed in range(1, 7)]
            for cost in costs_for(matrix)[1:3]:
                moves = least_test_set(matrix, cost)
                for one in vectors:
                    others = vectors + list(solutions_by_hand(matrix, image_by_hand(matrix, one))[:4])
                    for other in others:
                        found = same_side(matrix, cost, one, other)
                        if image_by_hand(matrix, one) != image_by_hand(matrix, other):
                            self.assertIsNone(found)
                            continue
                        first, second = found
                        self.assertIsInstance(found, tuple)
                        self.assertIsInstance(first, list)
                        ends = [walked(matrix, cost, moves, vector, chain)
                                for vector, chain in ((one, first), (other, second))]
                        self.assertEqual(ends[0], ends[1])
                        self.assertFalse(any(stands_at(head, ends[0]) for head, _ in moves))

    def test_by_hand(self):
        self.assertEqual(same_side(TWISTED, COST, (0, 2, 1, 0), (1, 0, 2, 0)), ([1], [0]))
        self.assertEqual(same_side(TWISTED, COST, (1, 1, 0, 1), (0, 2, 1, 0)), ([], [1]))
        self.assertEqual(same_side(TWISTED, COST, (1, 1, 0, 1), (1, 1, 0, 1)), ([], []))
        self.assertEqual(same_side(TWISTED, COST, (0, 0, 0, 0), (0, 0, 0, 0)), ([], []))
        self.assertIsNone(same_side(TWISTED, COST, (1, 1, 0, 1), (1, 1, 0, 2)))
        self.assertIsNone(same_side(FLAT, (0, 0), (1, 0), (0, 1)))
        self.assertEqual(same_side(FLAT, (0, 0), (2, 0), (0, 1)), ([0], []))


class Example(unittest.TestCase):
    """[88]"""

    def test_the_example(self):
        self.assertEqual(side_answer(TWISTED, COST, (3, 4))[:2], ("first", (1, 1, 0, 1)))
        self.assertIs(is_side_answer(TWISTED, COST, (1, 4), ("signs", (3, -1))), True)
        self.assertIs(is_side_answer(SLOPED, (0, 0), (1, 0), ("rest", (1, 0), 2)), True)


class Wrong(unittest.TestCase):
    """The errors, and their order"""

    def check_errors(self, function, good, wrongs):
        for arguments, error in wrong_calls(good, wrongs):
            with self.subTest(function.__name__, arguments=arguments):
                with self.assertRaises(error):
                    function(*arguments)

    def test_sides(self):
        wrongs = START + [(2, side, NotSide) for side in NO_SIDES]
        self.check_errors(side_answer, (TWISTED, COST, (3, 4)), wrongs)
        for answer in [("first", (1, 1, 0, 1), MOVES), ("signs", ()), ("hole", 1, 2), ()]:
            self.check_errors(is_side_answer, (TWISTED, COST, (3, 4), answer), wrongs)

    def test_vectors(self):
        wrongs = START + [(at, vector, NotVector) for at in (2, 3) for vector in NO_SOLUTIONS]
        self.check_errors(same_side, (TWISTED, COST, (0, 2, 1, 0), (1, 0, 2, 0)), wrongs)
        self.check_errors(same_side, (TWISTED, COST, (0, 2, 1, 0), (1, 0, 2, 1)), wrongs)

    def test_too_large(self):
        zeros = (0,) * 6
        start = [(0, ((9, 8, 7, 6, 5, 10),), NotMatrix), (0, ((9, 8, 7, 6, 5, -4),), NotPointed),
                 (1, (0,) * 5, NotCost)]
        self.check_errors(side_answer, (WIDE, zeros, (9,)), start + [(2, (9, 9), NotSide)])
        self.check_errors(same_side, (WIDE, zeros, zeros, zeros), start + [(3, zeros[1:], NotVector)])
        with self.assertRaises(TooLarge):
            side_answer(WIDE, zeros, (9,))
        with self.assertRaises(TooLarge):
            same_side(WIDE, zeros, (2, 0, 0, 0, 0, 0), (0, 0, 0, 3, 0, 0))
        with self.assertRaises(TooLarge):
            is_side_answer(WIDE, zeros, (9,), ("first", (1, 0, 0, 0, 0, 0), []))

    def test_fresh_lists(self):
        once = side_answer(TWISTED, COST, (3, 4))[2]
        once.clear()
        self.assertEqual(len(side_answer(TWISTED, COST, (3, 4))[2]), 3)
        given = list(MOVES)
        self.assertIs(
            is_side_answer(TWISTED, COST, (3, 4), ("first", (1, 1, 0, 1), given)), True)
        self.assertEqual(given, MOVES)
        found = same_side(TWISTED, COST, (0, 2, 1, 0), (0, 2, 1, 0))
        found[0].append(5)
        self.assertEqual(found[1], [1])


if __name__ == "__main__":
    unittest.main()
