"""Promises [180] to [187]: the checker."""

import ast
import unittest
from fractions import Fraction
from math import prod
from pathlib import Path
from random import Random

import tallyhull.certificates as checker
from tallyhull.answers import side_answer
from tallyhull.boxes import boxes, is_box_list
from tallyhull.certificates import (
    cone_shown, graver_shown, lattice_shown, loss_shown, optimum_shown, papers_shown, pointed_shown,
    side_shown, walk_shown)
from tallyhull.cheapest import is_first
from tallyhull.errors import NotCost, NotMatrix, NotSide, TooLarge
from tallyhull.farkas import farkas_paper, fraction_solution
from tallyhull.graver import graver_list, walk
from tallyhull.holeboxes import hole_paper
from tallyhull.holes import fundamental_holes
from tallyhull.lattices import lattice_answer
from tallyhull.losses import greatest_loss, loss_paper
from tallyhull.matrices import pointed_answer
from tallyhull.optima import fraction_optimum, optimum_paper
from tallyhull.testsets import graver_moves, is_test_set, least_test_set
from tests.fibers import (
    LIMIT, LISTED, check_errors, costs_for, head_up, key_of, minus, plus, solutions_by_hand)
from tests.samples import (
    FLAT, GAPPED, POINTED, RINGED, SLOPED, TWISTED, columns_by_hand, dot, image_by_hand, sides_near)
from tests.test_cheapest import NO_SIDES
from tests.test_moves import COST
from tests.test_testsets import PLAIN

SHORT = ((1, 1, 1), (0, 1, 2))
LAST = (0, 0, 1)
PAPERS = ((1, 0), [(1, -2, 1)], [((1, 0, 1), (0, 2, 0))], [((0, 0, 0), (0, 1)), ((0, 0, 0), (1, 2))])
NEW = [None, True, False, "x", "", 5, -1, 10 ** 30, -10 ** 30, (), [], {}, (0,), [0], ((),), 1.5]


def mutants(value):
    """All that a value becomes by one change: of a part, of a length, or of its kind."""
    for other in NEW:
        if type(other) is not type(value) or other != value:
            yield other
    if type(value) is int:
        yield from (value + 1, value - 1, -value - 1, value + 10 ** 30, bool(value))
    if type(value) is str:
        yield from (value.upper(), value + " ", value[:-1])
    if type(value) in (tuple, list):
        kind = type(value)
        yield tuple(value) if kind is list else list(value)
        for k, part in enumerate(value):
            yield value[:k] + value[k + 1:]
            yield value[:k] + kind([part]) + value[k:]
            for other in mutants(part):
                yield value[:k] + kind([other]) + value[k + 1:]
        for other in (0, 1, None, (0, 1)):
            yield value + kind([other])


def some_mutants(value, most=400):
    every = list(mutants(value))
    return every if len(every) <= most else Random(180).sample(every, most)


def ints(value, many=None):
    """Whether something is a tuple of integers."""
    return (type(value) is tuple and (many is None or len(value) == many)
            and all(type(entry) is int for entry in value))


def counts(value, many):
    return ints(value, many) and min(value) >= 0


def ratios(value, many):
    """A tuple of pairs of integers as fractions, or None."""
    if type(value) is not tuple or len(value) != many or not all(ints(pair, 2) for pair in value):
        return None
    if any(b < 1 or (Fraction(a, b).numerator, Fraction(a, b).denominator) != (a, b) for a, b in value):
        return None
    return [Fraction(a, b) for a, b in value]


def kind_of(answer, parts):
    """The kind of an answer with as many parts as this kind has."""
    if type(answer) is tuple and answer and type(answer[0]) is str:
        if parts.get(answer[0]) == len(answer):
            return answer[0]
    return None


def pointed_by_hand(matrix, answer):
    """[5]"""
    kind = kind_of(answer, {"weight": 2, "ring": 2})
    if kind == "weight" and ints(answer[1], len(matrix)):
        return "weight" if all(dot(answer[1], a) > 0 for a in columns_by_hand(matrix)) else "none"
    if kind == "ring" and counts(answer[1], len(matrix[0])):
        return "ring" if any(answer[1]) and not any(image_by_hand(matrix, answer[1])) else "none"
    return "none"


def divides(m, number):
    return number % m == 0 if m else number == 0


def is_rest_by_hand(matrix, side, row, m):
    """[23]"""
    return (ints(row, len(matrix)) and type(m) is int and m >= 0 and m != 1
            and all(divides(m, dot(row, a)) for a in columns_by_hand(matrix))
            and not divides(m, dot(row, side)))


def lattice_by_hand(matrix, side, answer):
    """[24]"""
    kind = kind_of(answer, {"whole": 2, "rest": 3})
    if kind == "whole" and ints(answer[1], len(matrix[0])):
        return "whole" if image_by_hand(matrix, answer[1]) == side else "none"
    return "rest" if kind == "rest" and is_rest_by_hand(matrix, side, *answer[1:]) else "none"


def is_farkas_by_hand(matrix, side, row):
    """[33]"""
    return (ints(row, len(matrix)) and dot(row, side) < 0
            and all(dot(row, a) >= 0 for a in columns_by_hand(matrix)))


def cone_by_hand(matrix, side, answer):
    """[181]"""
    kind = kind_of(answer, {"in": 2, "out": 2})
    if kind == "in":
        found = ratios(answer[1], len(matrix[0]))
        if found is not None and min(found) >= 0 and image_by_hand(matrix, found) == side:
            return "in"
    return "out" if kind == "out" and is_farkas_by_hand(matrix, side, answer[1]) else "none"


def graver_by_hand(matrix, vectors):
    """[43]: it has all vectors of the Graver list, or their opposites."""
    many = len(matrix[0])
    if type(vectors) is not list or not all(ints(vector, many) for vector in vectors):
        return False
    if any(any(image_by_hand(matrix, vector)) or not any(vector) for vector in vectors):
        return False
    heads = [head_up(vector) for vector in vectors]
    return len(set(heads)) == len(heads) and set(graver_list(matrix)) <= set(heads)


def is_move_by_hand(matrix, cost, move):
    many = len(matrix[0])
    if type(move) is not tuple or len(move) != 2 or not all(counts(vector, many) for vector in move):
        return False
    head, tail = move
    return (head != tail and image_by_hand(matrix, head) == image_by_hand(matrix, tail)
            and not any(a * b for a, b in zip(head, tail)) and key_of(cost, tail) < key_of(cost, head))


def is_box_by_hand(matrix, box):
    many = len(matrix[0])
    if type(box) is not tuple or len(box) != 2 or not counts(box[0], many) or not ints(box[1]):
        return False
    return (list(box[1]) == sorted(set(box[1])) and all(0 <= k < many for k in box[1])
            and not any(box[0][k] for k in box[1]))


def looks_by_hand(moves, found, many):
    rows = [head for head, _ in moves] + [u for u, _ in found]
    return prod(max([row[k] for row in rows], default=0) + 2 for k in range(many))


def papers_by_hand(matrix, cost, papers):
    """[183]; or "large" """
    many = len(cost)
    if type(papers) is not tuple or len(papers) != 4:
        return False
    weight, vectors, moves, found = papers
    if type(moves) is not list or not all(is_move_by_hand(matrix, cost, move) for move in moves):
        return False
    if len(set(moves)) < len(moves):
        return False
    if type(found) is not list or not all(is_box_by_hand(matrix, box) for box in found):
        return False
    if looks_by_hand(moves, found, many) > 100000:
        return "large"
    return (pointed_by_hand(matrix, ("weight", weight)) == "weight" and graver_by_hand(matrix, vectors)
            and is_test_set(matrix, cost, moves) and is_box_list(matrix, cost, found))


def papers_of(matrix, cost):
    return (pointed_answer(matrix)[1], graver_list(matrix), least_test_set(matrix, cost),
            boxes(matrix, cost))


def told_papers(matrix, cost, papers):
    """What papers_shown tells, or "large"."""
    try:
        return papers_shown(matrix, cost, papers)
    except TooLarge:
        return "large"


class Modules(unittest.TestCase):
    """[180]"""

    def test_what_the_checker_imports(self):
        folder = Path(checker.__file__).parent
        todo = ["certificates"]
        seen = []
        while todo:
            name = todo.pop()
            seen.append(name)
            for node in ast.walk(ast.parse((folder / f"{name}.py").read_text(encoding="utf-8"))):
                self.assertNotIsInstance(node, ast.Import)
                if isinstance(node, ast.ImportFrom):
                    package, module = node.module.split(".")
                    self.assertEqual(package, "tallyhull")
                    if module not in seen + todo:
                        todo.append(module)
        self.assertEqual(sorted(seen), ["certificates", "checkboxes", "checklists", "checkrows", "errors"])
        # No other module needs them: so they are of the checker alone.
        for path in folder.glob("*.py"):
            if path.stem not in seen + ["__init__"]:
                self.assertNotRegex(path.read_text(encoding="utf-8"), r"tallyhull\.(check|certificates)")


class Simple(unittest.TestCase):
    """[181]"""

    def test_pointed_answers(self):
        kinds = {}
        for matrix in POINTED + RINGED:
            answer = pointed_answer(matrix)
            self.assertEqual(pointed_shown(matrix, answer), answer[0])
            for other in some_mutants(answer):
                told = pointed_shown(matrix, other)
                self.assertEqual(told, pointed_by_hand(matrix, other), (matrix, other))
                kinds[told] = kinds.get(told, 0) + 1
        self.assertGreater(min(kinds.values()), 20)
        self.assertEqual(len(kinds), 3)
        self.assertEqual(pointed_shown(SHORT, ("weight", (10 ** 40, -1))), "weight")
        self.assertEqual(pointed_shown(((1, -2),), ("ring", (2 * 10 ** 40, 10 ** 40))), "ring")
        self.assertEqual(pointed_shown(((1, -2),), ("ring", (2, True))), "none")
        self.assertEqual(pointed_shown(((1, -2),), ("weight", (2, 1))), "none")

    def test_lattice_answers(self):
        kinds = {}
        for matrix in POINTED[::2] + RINGED[::2] + [SLOPED, FLAT]:
            for side in sides_near(matrix, 2)[::7]:
                answer = lattice_answer(matrix, side)
                self.assertEqual(lattice_shown(matrix, side, answer), answer[0])
                for other in some_mutants(answer, 60):
                    told = lattice_shown(matrix, side, other)
                    self.assertEqual(told, lattice_by_hand(matrix, side, other), (matrix, side, other))
                    kinds[told] = kinds.get(told, 0) + 1
        self.assertGreater(min(kinds.values()), 10)
        self.assertEqual(len(kinds), 3)
        self.assertEqual(lattice_shown(SLOPED, (1, 0), ("rest", (1, 0), 2)), "rest")
        self.assertEqual(lattice_shown(SLOPED, (2, 2), ("rest", (1, 1), 3)), "rest")
        self.assertEqual(lattice_shown(SLOPED, (2, 2), ("rest", (1 + 3 * 10 ** 30, 1), 3)), "rest")
        for row, m in [((1, 1), 1), ((1, 1), 0), ((1, 1), -3), ((1, 1), 6), ((1, 1), True), ((1, 1, 0), 3), ((1,), 3)]:
            self.assertEqual(lattice_shown(SLOPED, (2, 2), ("rest", row, m)), "none")
        self.assertEqual(lattice_shown(FLAT, (1, 3), ("rest", (2, -1), 0)), "rest")
        self.assertEqual(lattice_shown(FLAT, (1, 2), ("rest", (2, -1), 0)), "none")

    def test_cone_answers(self):
        kinds = {}
        for matrix in POINTED[::2] + [GAPPED]:
            for side in sides_near(matrix, 2)[::7]:
                numbers = fraction_solution(matrix, side)
                answer = ("out", farkas_paper(matrix, side)) if numbers is None else ("in", numbers)
                self.assertEqual(cone_shown(matrix, side, answer), answer[0])
                for other in some_mutants(answer, 60):
                    told = cone_shown(matrix, side, other)
                    self.assertEqual(told, cone_by_hand(matrix, side, other), (matrix, side, other))
                    kinds[told] = kinds.get(told, 0) + 1
        # With one entry changed no fraction solution stays one.
        self.assertGreater(kinds["none"], 1000)
        self.assertGreater(kinds["out"], 100)
        good = ((1, 3), (0, 1), (2, 3))
        self.assertEqual(cone_shown(GAPPED, (1, 2), ("in", good)), "in")
        for wrong in [((2, 6), (0, 1), (2, 3)), ((1, 3), (0, 2), (2, 3)), ((-1, -3), (0, 1), (2, 3)),
                      ((1, 3), (0, 1)), ((1, 3), (0, 1), (2, 3), (0, 1)), ((1, 3), 0, (2, 3)),
                      ((1, 3), (0, 1), (2, 3, 1)), ((1, 0), (0, 1), (2, 3)), ((1, 1), (-1, 1), (1, 1))]:
            self.assertEqual(cone_shown(GAPPED, (1, 2), ("in", wrong)), "none")
        # Matrices that are not pointed are taken, too.
        self.assertEqual(cone_shown(((1, -2),), (-3,), ("in", ((1, 1), (2, 1)))), "in")
        self.assertEqual(cone_shown(((1, -2), (0, 0)), (1, 1), ("out", (0, -1))), "out")


class Lists(unittest.TestCase):
    """[182]"""

    def test_graver_lists(self):
        told = {True: 0, False: 0}
        source = Random(182)
        for matrix in LISTED:
            good = graver_list(matrix)
            self.assertIs(graver_shown(matrix, good), True)
            turned = [tuple(-entry for entry in vector) if source.random() < 0.5 else vector for vector in good]
            source.shuffle(turned)
            self.assertIs(graver_shown(matrix, turned), True)
            for k in range(len(good)):
                self.assertIs(graver_shown(matrix, good[:k] + good[k + 1:]), False)
            if good:
                twice = tuple(2 * entry for entry in good[0])
                more = [twice, tuple(-10 ** 30 * entry for entry in good[-1])]
                self.assertIs(graver_shown(matrix, good + more), True)
                self.assertIs(graver_shown(matrix, good + good[:1]), False)
                self.assertIs(graver_shown(matrix, good + [tuple(-entry for entry in good[0])]), False)
                self.assertIs(graver_shown(matrix, [twice] + good[1:]), False)
            for other in some_mutants(good, 40):
                found = graver_shown(matrix, other)
                self.assertIs(found, graver_by_hand(matrix, other), (matrix, other))
                told[found] += 1
        self.assertGreater(told[False], 1000)

    def test_random_lists(self):
        source = Random(1820)
        told = {True: 0, False: 0}
        for matrix in [SHORT, TWISTED, GAPPED, ((1, 2, 3),), ((1, 1, 1),), ((2, 3),)]:
            good = graver_list(matrix)
            for _ in range(60):
                sums = [plus(source.choice(good), source.choice(good)) for _ in range(2)]
                sums = [vector for vector in sums if any(vector)]
                vectors = source.sample(good, max(len(good) - source.choice([0, 0, 1]), 0))
                vectors += [vector for vector in set(sums) if vector not in vectors]
                found = graver_shown(matrix, vectors)
                self.assertIs(found, graver_by_hand(matrix, vectors), (matrix, vectors))
                told[found] += 1
        self.assertGreater(min(told.values()), 40)

    def test_vectors_that_are_no_dependences(self):
        for vectors in [[(0, 0, 0)], [(1, -2, 1), (0, 0, 0)], [(1, -2, 1), (1, 0, 0)], [(1, -2, 1), (1, -2)],
                        [(1, -2, 1), (1, -2, 1, 0)], [(1, -2, True)], [(1, -2, 1), None], [], (), ((1, -2, 1),)]:
            self.assertIs(graver_shown(SHORT, vectors), False)

    def test_matrices_with_rings(self):
        # [43] speaks of any matrix.
        self.assertIs(graver_shown(((1, -1),), [(1, 1)]), True)
        self.assertIs(graver_shown(((1, -1),), [(2, 2)]), False)
        self.assertIs(graver_shown(((0,),), [(1,)]), True)
        self.assertIs(graver_shown(((0,),), []), False)
        self.assertIs(graver_shown(((1,),), []), True)

    def test_more_than_200(self):
        many = [(k, -2 * k, k) for k in range(1, 203)]
        self.assertIs(graver_shown(SHORT, many[:200]), True)
        self.assertIs(graver_shown(SHORT, many[1:201]), False)
        for wrong in (many[:201], many, [(0, 0, 0)] * 201, [None] * 201, many[:1] * 300):
            with self.assertRaises(TooLarge):
                graver_shown(SHORT, wrong)
            with self.assertRaises(TooLarge):
                walk_shown(SHORT, wrong, [(0, 0, 0)])
            with self.assertRaises(TooLarge):
                papers_shown(SHORT, LAST, PAPERS[:1] + (wrong,) + PAPERS[2:])
            with self.assertRaises(TooLarge):
                side_shown(SHORT, LAST, (1, 1), PAPERS[:1] + (wrong,) + PAPERS[2:], ("signs", (1, 1)))
        self.assertIs(papers_shown(SHORT, LAST, PAPERS[:1] + (many[:200],) + PAPERS[2:]), True)
        self.assertIs(graver_shown(LIMIT, graver_list(LIMIT)), True)

    def test_walks(self):
        source = Random(186)
        for matrix in LISTED:
            good = graver_list(matrix)
            one = tuple(source.randint(0, 4) for _ in matrix[0])
            every = solutions_by_hand(matrix, image_by_hand(matrix, one))
            other = source.choice(every)
            steps = walk(matrix, one, other)
            self.assertIs(walk_shown(matrix, good, steps), True)
            self.assertIs(walk_shown(matrix, good, steps[::-1]), True)
            self.assertIs(walk_shown(matrix, good, [one]), True)
            self.assertIs(walk_shown(matrix, good, []), False)
            self.assertIs(walk_shown(matrix, good, [one, one]), False)
            self.assertIs(walk_shown(matrix, good[1:], steps), not good)
            self.assertIs(walk_shown(matrix, good, tuple(steps)), False)
            both = set(good) | {tuple(-entry for entry in vector) for vector in good}
            for found in some_mutants(steps, 30):
                right = (type(found) is list and found and all(counts(x, len(one)) for x in found)
                         and all(minus(b, a) in both for a, b in zip(found, found[1:])))
                self.assertIs(walk_shown(matrix, good, found), bool(right), (matrix, found))

    def test_walks_that_are_none(self):
        good = [(1, -2, 1)]
        for found, told in [
                ([(0, 2, 0), (1, 0, 1)], True), ([(0, 4, 0), (1, 2, 1), (2, 0, 2)], True),
                ([(0, 4, 0), (2, 0, 2)], False), ([(0, 1, 0), (1, -1, 1)], False), ([(-1, 4, 0), (0, 2, 1)], False),
                ([(0, 2, 0), (1, 0, 1), (0, 2, 0)], True), ([(0, 2, 0), (0, 2, 1)], False), ([(0, 2)], False),
                ([(0, 2, 0), (1, 0)], False), ([(10 ** 30, 2, 0), (10 ** 30 + 1, 0, 1)], True)]:
            self.assertIs(walk_shown(SHORT, good, found), told)
        # More vectors may be among the list; then they are steps, too.
        self.assertIs(walk_shown(SHORT, good + [(2, -4, 2)], [(0, 4, 0), (2, 0, 2)]), True)
        self.assertIs(walk_shown(SHORT, [(2, -4, 2)], [(0, 4, 0), (2, 0, 2)]), False)


class Papers(unittest.TestCase):
    """[183]"""

    def test_right_papers(self):
        for matrix in LISTED:
            for cost in costs_for(matrix):
                weight, vectors, moves, found = papers_of(matrix, cost)
                if looks_by_hand(moves, found, len(cost)) > 100000:
                    continue
                self.assertIs(papers_shown(matrix, cost, (weight, vectors, moves, found)), True)
                twice = (tuple(2 * entry for entry in weight), vectors[::-1], moves[::-1], found + found[:1])
                self.assertIs(papers_shown(matrix, cost, twice), True)
                every = graver_moves(matrix, cost)
                if looks_by_hand(every, found, len(cost)) <= 100000:
                    self.assertIs(papers_shown(matrix, cost, (weight, vectors, every, found)), True)

    def test_a_part_left_out(self):
        for matrix in PLAIN:
            for cost in costs_for(matrix)[::2]:
                papers = papers_of(matrix, cost)
                for at in (1, 2, 3):
                    for k in range(len(papers[at])):
                        less = papers[:at] + (papers[at][:k] + papers[at][k + 1:],) + papers[at + 1:]
                        self.assertIs(papers_shown(matrix, cost, less), False, less)

    def test_changed_papers(self):
        told = {True: 0, False: 0, "large": 0}
        for matrix in PLAIN:
            for cost in costs_for(matrix)[1:4]:
                papers = papers_of(matrix, cost)
                for at in range(4):
                    for part in some_mutants(papers[at], 50):
                        other = papers[:at] + (part,) + papers[at + 1:]
                        found = told_papers(matrix, cost, other)
                        self.assertEqual(found, papers_by_hand(matrix, cost, other), (matrix, cost, other))
                        told[found] += 1
                for other in (papers[:3], papers + (1,), list(papers), None, (), papers[::-1], "papers", 5):
                    self.assertIs(papers_shown(matrix, cost, other), False)
        self.assertGreater(min(told.values()), 20)

    def test_told(self):
        weight, vectors, moves, found = PAPERS
        for papers, told in [
                (PAPERS, True), (((1, 1), vectors, moves, found), True), (((0, 1), vectors, moves, found), False),
                (((1,), vectors, moves, found), False), ((weight, [(-1, 2, -1)], moves, found), True),
                ((weight, [(2, -4, 2)], moves, found), False), ((weight, vectors, [], found), False),
                ((weight, vectors, [((0, 2, 0), (1, 0, 1))], found), False),
                ((weight, vectors, moves + [((2, 0, 1), (1, 2, 0))], found), False),
                ((weight, vectors, moves + moves, found), False),
                ((weight, vectors, moves + [((2, 0, 2), (0, 4, 0))], found), True),
                ((weight, vectors, [((2, 0, 2), (0, 4, 0))], found), False),
                ((weight, vectors, moves, found[:1]), False), ((weight, vectors, moves, []), False),
                ((weight, vectors, [], [((0, 0, 0), (0, 1, 2))]), False), ((weight, [], moves, found), False),
                ((weight, vectors, moves + [((1, 1, 1), (0, 3, 0))], found), False),
                ((weight, vectors, moves + [((1, 0, 3), (0, 2, 2))], found), False),
                ((weight, vectors, moves + [((0, 0, 0), (0, 0, 0))], found), False),
                ((weight, vectors + [(0, 0, 0)], moves, found), False),
                ((weight, vectors, moves, found + [((0, 0, 0), (0, 1, 2))]), False),
                ((weight, vectors, moves, found + [((0, 7, 0), (0,))]), True),
                ((weight, vectors, moves, [((0, 0, 0), (0, 1)), ((0, 0, 0), ()), ((0, 0, 1), (1,)),
                                           ((0, 0, 2), (1,))]), False),
                ((weight, vectors, moves, [((0, 0, 0), (0, 1)), ((0, 1, 0), (2,)), ((0, 0, 0), (1, 2))]), True)]:
            with self.subTest(papers=papers):
                self.assertIs(papers_shown(SHORT, LAST, papers), told)

    def test_a_move_to_a_later_vector(self):
        # Its head is no first solution, but it leads to one that comes behind it.
        ones, cost = ((1, 1, 1),), (0, 0, 0)
        weight, vectors, moves, found = papers_of(ones, cost)
        self.assertIs(papers_shown(ones, cost, (weight, vectors, moves, found)), True)
        self.assertNotIn(((1, 0, 0), (0, 1, 0)), moves)
        self.assertIs(papers_shown(ones, cost, (weight, vectors, moves + [((1, 0, 0), (0, 1, 0))], found)), True)
        self.assertIs(papers_shown(ones, cost, (weight, vectors, moves + [((0, 1, 0), (1, 0, 0))], found)), False)

    def test_boxes_behind_all_entries(self):
        # The boxes have all first vectors with entries up to theirs, but not one that is 1 more.
        one, cost = ((1, 1),), (0, 0)
        papers = (1,), [(1, -1)], [((1, 0), (0, 1))]
        single = [((0, k), ()) for k in range(6)]
        self.assertIs(papers_shown(one, cost, papers + (single,)), False)
        self.assertIs(papers_shown(one, cost, papers + (single + [((0, 0), (1,))],)), True)
        self.assertIs(papers_shown(((1,),), (0,), ((1,), [], [], [((0,), (0,))])), True)
        self.assertIs(papers_shown(((1,),), (0,), ((1,), [], [], [((0,), ()), ((1,), ())])), False)

    def test_a_matrix_with_a_ring(self):
        # No row is a weight.
        self.assertIs(papers_shown(((1, -1),), (0, 0), ((1,), [(1, 1)], [], [((0, 0), (0, 1))])), False)

    def test_how_many_vectors_are_looked_at(self):
        one, cost, every = ((1,),), (0,), [((0,), (0,))]
        for u, told in [((99998,), True), ((99999,), None), ((10 ** 30,), None)]:
            papers = (1,), [], [], every + [(u, ())]
            if told:
                self.assertIs(papers_shown(one, cost, papers), told)
                continue
            for function, more in [(papers_shown, (papers,)), (side_shown, ((3,), papers, ("signs", (1,)))),
                                   (loss_shown, (papers, ((0, 1), (0,), []), ((), ())))]:
                with self.assertRaises(TooLarge):
                    function(one, cost, *more)
        # With heads and boxes there are 3, 2 and n + 2 entries, or 4, 2 and n + 2.
        for u, told in [((0, 0, 16664), True), ((0, 0, 16665), None), ((2, 0, 12498), False),
                        ((2, 0, 12499), None)]:
            papers = PAPERS[:3] + (PAPERS[3] + [(u, ())],)
            looked = looks_by_hand(PAPERS[2], papers[3], 3)
            self.assertEqual(looked > 100000, told is None, looked)
            if told is None:
                with self.assertRaises(TooLarge):
                    papers_shown(SHORT, LAST, papers)
            else:
                self.assertIs(papers_shown(SHORT, LAST, papers), told)


def side_by_hand(matrix, cost, side, answer):
    """[184], for accepted papers"""
    kind = kind_of(answer, {"first": 3, "signs": 2, "rest": 3, "hole": 3})
    many = len(matrix[0])
    if kind == "first" and counts(answer[1], many) and image_by_hand(matrix, answer[1]) == side:
        return "first" if is_first(matrix, cost, answer[1]) else "nothing"
    if kind == "signs" and is_farkas_by_hand(matrix, side, answer[1]):
        return "none"
    if kind == "rest" and is_rest_by_hand(matrix, side, *answer[1:]):
        return "none"
    if kind == "hole" and ints(answer[1], len(matrix)) and counts(answer[2], many):
        if plus(answer[1], image_by_hand(matrix, answer[2])) == side:
            return "nothing" if solutions_by_hand(matrix, side) else "none"
    return "nothing"


class Sides(unittest.TestCase):
    """[184]"""

    def test_side_answers(self):
        kinds = {}
        for matrix in PLAIN + [SLOPED, ((3, 5),), ((2, 2, 2), (0, 1, 3))]:
            for cost in costs_for(matrix)[1:3]:
                papers = papers_of(matrix, cost)
                for side in sides_near(matrix, {1: 9, 2: 4, 3: 2}[len(matrix)])[::5]:
                    answer = side_answer(matrix, cost, side)
                    told = side_shown(matrix, cost, side, papers, answer)
                    self.assertEqual(told, "first" if answer[0] == "first" else "none")
                    for other in some_mutants(answer, 15):
                        told = side_shown(matrix, cost, side, papers, other)
                        self.assertEqual(told, side_by_hand(matrix, cost, side, other), (matrix, side, other))
                        kinds[told] = kinds.get(told, 0) + 1
        self.assertEqual(len(kinds), 3)
        self.assertGreater(min(kinds.values()), 100)

    def test_all_solutions_of_a_side(self):
        for matrix in PLAIN:
            cost = costs_for(matrix)[3]
            papers = papers_of(matrix, cost)
            for side in sides_near(matrix, 4)[::9]:
                every = sorted(solutions_by_hand(matrix, side), key=lambda x: key_of(cost, x))
                for at, x in enumerate(every):
                    for moves in (papers[2], [], None, "any"):
                        self.assertEqual(side_shown(matrix, cost, side, papers, ("first", x, moves)),
                                         "nothing" if at else "first")
                    self.assertEqual(side_shown(matrix, cost, plus(side, columns_by_hand(matrix)[0]), papers,
                                                ("first", x, papers[2])), "nothing")

    def test_holes(self):
        for matrix in (GAPPED, ((2, 3),), ((3, 5),), ((1, 1, 1), (0, 1, 4)), ((2, 2, 2), (0, 1, 3))):
            cost = (1,) * len(matrix[0])
            papers = papers_of(matrix, cost)
            for hole in fundamental_holes(matrix):
                for column in columns_by_hand(matrix):
                    side = plus(hole, plus(column, column))
                    unit = tuple(2 * int(other == column) for other in columns_by_hand(matrix))
                    told = side_shown(matrix, cost, side, papers, ("hole", hole, unit))
                    solved = bool(solutions_by_hand(matrix, side))
                    self.assertEqual(told, "nothing" if solved else "none")
                    if not solved:
                        f, x = hole_paper(matrix, side)
                        self.assertEqual(side_shown(matrix, cost, side, papers, ("hole", f, x)), "none")
        papers = papers_of(GAPPED, (0, 0, 1))
        for side, f, x, told in [
                ((1, 2), (1, 2), (0, 0, 0), "none"), ((2, 5), (1, 2), (0, 0, 1), "none"),
                ((2, 5), (2, 5), (0, 0, 0), "none"), ((2, 3), (1, 2), (0, 1, 0), "nothing"),
                ((2, 5), (2, 6), (0, 0, 0), "nothing"), ((1, 2), (2, 2), (-1, 0, 0), "nothing"),
                ((2, 5), (1, 2, 0), (0, 0, 1), "nothing"), ((2, 5), (1, 2), (0, 0), "nothing"),
                # No box has a side out of the cone, either.
                ((1, 4), (1, 4), (0, 0, 0), "none"), ((0, 0), (0, 0), (0, 0, 0), "nothing")]:
            with self.subTest(side=side, f=f, x=x):
                self.assertEqual(side_shown(GAPPED, (0, 0, 1), side, papers, ("hole", f, x)), told)

    def test_with_papers_that_are_not_accepted(self):
        for papers in [PAPERS[:3] + (PAPERS[3][:1],), ((0, 1),) + PAPERS[1:], PAPERS[:3], None,
                       PAPERS[:1] + ([],) + PAPERS[2:], PAPERS[:2] + ([],) + PAPERS[3:]]:
            for side, answer in [((2, 2), ("first", (0, 2, 0), [])), ((0, 1), ("signs", (2, -1)))]:
                self.assertEqual(side_shown(SHORT, LAST, side, papers, answer), "nothing")
        self.assertEqual(side_shown(SHORT, LAST, (2, 2), PAPERS, ("first", (0, 2, 0), [])), "first")
        self.assertEqual(side_shown(SHORT, LAST, (2, 2), PAPERS, ("first", (1, 0, 1), PAPERS[2])), "nothing")
        self.assertEqual(side_shown(SHORT, LAST, (0, 1), PAPERS, ("signs", (2, -1))), "none")
        self.assertEqual(side_shown(SHORT, LAST, (0, 1), PAPERS, ("signs", (2, -1), 5)), "nothing")


def is_best_by_hand(matrix, cost, side, paper):
    """[123]"""
    if type(paper) is not tuple or len(paper) != 2:
        return False
    x, y = ratios(paper[0], len(cost)), ratios(paper[1], len(matrix))
    return (x is not None and y is not None and min(x) >= 0 and image_by_hand(matrix, x) == side
            and all(dot(y, a) <= c for a, c in zip(columns_by_hand(matrix), cost))
            and dot(cost, x) == dot(y, side))


def covers_by_hand(matrix, cost, found):
    return all(is_box_by_hand(matrix, box) for box in found) and is_box_list(matrix, cost, found)


def loss_by_hand(matrix, cost, paper, optimum):
    """[185], for accepted papers; or "large" """
    if type(paper) is not tuple or len(paper) != 3:
        return None
    number, solution, pairs = paper
    if ratios((number,), 1) is None or not counts(solution, len(cost)) or type(pairs) is not list:
        return None
    if not all(type(pair) is tuple and len(pair) == 2 and is_box_by_hand(matrix, pair[0])
               and ratios(pair[1], len(matrix)) is not None for pair in pairs):
        return None
    found = [box for box, _ in pairs]
    if looks_by_hand(least_test_set(matrix, cost), found, len(cost)) > 100000:
        return "large"
    if not is_first(matrix, cost, solution):
        return None
    if not is_best_by_hand(matrix, cost, image_by_hand(matrix, solution), optimum):
        return None
    lost = Fraction(*number)
    if dot(cost, solution) - dot(cost, ratios(optimum[0], len(cost))) != lost:
        return None
    for (u, free), row in pairs:
        gaps = [c - dot(ratios(row, len(matrix)), a) for a, c in zip(columns_by_hand(matrix), cost)]
        if min(gaps) < 0 or any(gaps[k] for k in free) or dot(gaps, u) > lost:
            return None
    return number if covers_by_hand(matrix, cost, found) else None


class Losses(unittest.TestCase):
    """[185]"""

    def test_optimum_papers(self):
        told = {True: 0, False: 0}
        for matrix in PLAIN + [SLOPED]:
            for cost in costs_for(matrix)[1:4]:
                for side in sides_near(matrix, 3)[::11]:
                    paper = optimum_paper(matrix, cost, side)
                    if paper is not None:
                        self.assertIs(optimum_shown(matrix, cost, side, paper), True)
                        for other in some_mutants(paper, 25):
                            found = optimum_shown(matrix, cost, side, other)
                            self.assertIs(found, is_best_by_hand(matrix, cost, side, other))
                            told[found] += 1
        self.assertGreater(told[False], 500)
        # Another row may do as well, where a side lies in the cones of two feet.
        zeros = ((0, 1),) * 3
        for row in (((0, 1), (0, 1)), ((-1, 1), (0, 1)), ((-10 ** 30, 1), (0, 1)), ((-1, 2), (1, 2))):
            self.assertIs(optimum_shown(SHORT, LAST, (0, 0), (zeros, row)), True)
        for row in (((1, 1), (0, 1)), ((-1, 1), (1, 1)), ((0, 1),), ((0, 2), (0, 1)), ((0, 1), (0, 1), (0, 1))):
            self.assertIs(optimum_shown(SHORT, LAST, (0, 0), (zeros, row)), row == ((-1, 1), (1, 1)))
        # The same sums with a fraction below 0, and by it a lesser price.
        row = ((0, 1), (1, 1))
        self.assertIs(optimum_shown(GAPPED, (0, 2, 3), (1, 2), (((1, 3), (0, 1), (2, 3)), row)), True)
        self.assertIs(optimum_shown(GAPPED, (0, 1, 3), (1, 2), (((1, 1), (-1, 1), (1, 1)), row)), False)
        self.assertIs(optimum_shown(GAPPED, (0, 2, 3), (1, 2), (((1, 1), (-1, 1), (1, 1)), row)), False)
        self.assertIs(optimum_shown(GAPPED, (1, 1, 3), (1, 2), (((1, 1), (-1, 1), (1, 1)), row)), False)

    def test_loss_papers(self):
        told = {"right": 0, "none": 0, "large": 0}
        for matrix in PLAIN + [SLOPED, ((3, 5),)]:
            for cost in costs_for(matrix)[1:4]:
                papers = papers_of(matrix, cost)
                paper = loss_paper(matrix, cost)
                optimum = optimum_paper(matrix, cost, image_by_hand(matrix, paper[1]))
                found = loss_shown(matrix, cost, papers, paper, optimum)
                self.assertEqual(found, greatest_loss(matrix, cost))
                for at, one in enumerate((papers, paper, optimum)):
                    for other in some_mutants(one, 25):
                        handed = [papers, paper, optimum]
                        handed[at] = other
                        try:
                            found = loss_shown(matrix, cost, *handed)
                        except TooLarge:
                            found = "large"
                        right = True if at else papers_by_hand(matrix, cost, other)
                        wanted = None if right is False else right
                        if right is True:
                            wanted = loss_by_hand(matrix, cost, *handed[1:])
                        self.assertEqual(found, wanted, (matrix, cost, handed))
                        told["none" if found is None else "large" if found == "large" else "right"] += 1
        self.assertGreater(min(told.values()), 10)

    def test_a_lesser_and_a_greater_number(self):
        coins, cost = ((2, 3),), (1, 1)
        papers = papers_of(coins, cost)
        number, solution, pairs = loss_paper(coins, cost)
        optimum = optimum_paper(coins, cost, image_by_hand(coins, solution))
        self.assertEqual(loss_shown(coins, cost, papers, (number, solution, pairs), optimum), (2, 3))
        # Another solution loses less: then the number is right for its side, but not for all.
        less = optimum_paper(coins, cost, (2,))
        self.assertIs(optimum_shown(coins, cost, (2,), less), True)
        self.assertIsNone(loss_shown(coins, cost, papers, ((1, 3), (1, 0), pairs), less))
        for wrong in [(1, 3), (1, 1), (4, 6), (0, 1), (-2, 3), (2, -3), (2 * 10 ** 30 + 1, 3 * 10 ** 30 + 2)]:
            self.assertIsNone(loss_shown(coins, cost, papers, (wrong, solution, pairs), optimum))
        # The same loss by a side far out, whose entries are greater than those of a side.
        far = (2, 10 ** 9)
        above, below = 4 + 3 * 10 ** 9, 3
        paper = (((0, 1), (above, below)), ((1, 3),))
        self.assertEqual(loss_shown(coins, cost, papers, (number, far, pairs), paper), (2, 3))
        # (3, 0) costs 1 more than fractions, and no box loses more; but it is not the first solution.
        for lost in (number, (1, 1)):
            self.assertIsNone(loss_shown(coins, cost, papers, (lost, (3, 0), pairs),
                                         optimum_paper(coins, cost, (6,))))

    def test_boxes_of_a_loss_paper(self):
        coins, cost = ((2, 3),), (1, 1)
        papers = papers_of(coins, cost)
        number, solution, pairs = loss_paper(coins, cost)
        optimum = optimum_paper(coins, cost, image_by_hand(coins, solution))
        row = pairs[0][1]
        for found, told in [
                (pairs[::-1], True), (pairs + pairs, True), (pairs[1:], False), (pairs[:2], False), ([], False),
                (pairs + [(((2, 7), ()), row)], True), (pairs + [(((3, 0), ()), row)], False),
                (pairs + [(((0, 0), (0,)), row)], False), (pairs + [(((2, 7), ()), ((0, 1),))], False),
                (pairs[:2] + [(((2, 0), ()), row), (((2, 1), ()), row)], False),
                (pairs + [(((1, 5), ()), ((1, 2),))], False), (pairs + [(((0, 5), ()), ((1, 4),))], False)]:
            with self.subTest(found=found):
                self.assertEqual(loss_shown(coins, cost, papers, (number, solution, found), optimum),
                                 number if told else None)
        great = pairs + [(((2, 10 ** 9), ()), row)]
        with self.assertRaises(TooLarge):
            loss_shown(coins, cost, papers, (number, solution, great), optimum)
        # (0, 0) and less than 100000 others in the second column; its row is no greater than the cost.
        self.assertEqual(loss_shown(coins, cost, papers, (number, solution, pairs + [(((2, 19998), ()), row)]),
                                    optimum), number)
        with self.assertRaises(TooLarge):
            loss_shown(coins, cost, papers, (number, solution, pairs + [(((2, 19999), ()), row)]), optimum)

    def test_other_matrices(self):
        shown = 0
        for matrix in LISTED[::2]:
            for cost in costs_for(matrix)[2:4]:
                papers = papers_of(matrix, cost)
                if looks_by_hand(papers[2], papers[3], len(cost)) <= 100000:
                    paper = loss_paper(matrix, cost)
                    side = image_by_hand(matrix, paper[1])
                    optimum = optimum_paper(matrix, cost, side)
                    self.assertEqual(loss_shown(matrix, cost, papers, paper, optimum), greatest_loss(matrix, cost))
                    self.assertEqual(fraction_optimum(matrix, cost, side),
                                     Fraction(dot(cost, [Fraction(*pair) for pair in optimum[0]])).as_integer_ratio())
                    shown += 1
        self.assertGreater(shown, 60)


class Example(unittest.TestCase):
    """[187]"""

    def test_the_example(self):
        self.assertIs(papers_shown(((1, 1, 1), (0, 1, 2)), (0, 0, 1), (
            (1, 0), [(1, -2, 1)], [((1, 0, 1), (0, 2, 0))],
            [((0, 0, 0), (0, 1)), ((0, 0, 0), (1, 2))])), True)


class Wrong(unittest.TestCase):
    """The errors, and their order"""

    def test_errors(self):
        bad = [(0, ((1, 1, 10), (0, 1, 2)), NotMatrix), (0, ((1, 1, 1), (0, 1)), NotMatrix), (0, (), NotMatrix),
               (0, ((1,), (1,), (1,), (1,)), NotMatrix), (0, ((1, True, 1),), NotMatrix), (0, ((),), NotMatrix),
               (0, ((1,) * 7,), NotMatrix), (0, ((1, -10),), NotMatrix)]
        costs = [(1, cost, NotCost) for cost in [(), (0, 1), (0, 0, 1, 1), (51, 0, 0), (0, -51, 0), (10 ** 30, 0, 0)]]
        second = [(1, side, NotSide) for side in NO_SIDES]
        third = [(2, side, NotSide) for side in NO_SIDES]
        many = (PAPERS[0], [(1, -2, 1)] * 201) + PAPERS[2:]
        large = [(2, many, TooLarge)]
        check_errors(self, pointed_shown, (SHORT, ("weight", (1, 0))), bad)
        check_errors(self, lattice_shown, (SHORT, (2, 2), ("whole", (0, 2, 0))), bad + second)
        check_errors(self, cone_shown, (SHORT, (2, 2), ("in", ())), bad + second)
        check_errors(self, graver_shown, (SHORT, [(1, -2, 1)]), bad + [(1, many[1], TooLarge)])
        check_errors(self, walk_shown, (SHORT, [(1, -2, 1)], [(0, 2, 0)]), bad + [(1, many[1], TooLarge)])
        check_errors(self, papers_shown, (SHORT, LAST, PAPERS), bad + costs + large)
        check_errors(self, side_shown, (SHORT, LAST, (2, 2), PAPERS, ("first", (0, 2, 0), [])),
                     bad + costs + third + [(3, many, TooLarge)])
        check_errors(self, optimum_shown, (SHORT, LAST, (2, 2), ((), ())), bad + costs + third)
        paper = loss_paper(SHORT, LAST)
        check_errors(self, loss_shown, (SHORT, LAST, PAPERS, paper, ((), ())), bad + costs + large)

    def test_arguments_stay(self):
        papers = papers_of(TWISTED, COST)
        kept = papers[0], list(papers[1]), list(papers[2]), list(papers[3])
        paper = loss_paper(TWISTED, COST)
        pairs = list(paper[2])
        optimum = optimum_paper(TWISTED, COST, image_by_hand(TWISTED, paper[1]))
        loss_shown(TWISTED, COST, papers, paper, optimum)
        steps = walk(TWISTED, (0, 2, 1, 0), (1, 1, 0, 1))
        once = list(steps)
        walk_shown(TWISTED, papers[1], steps)
        self.assertEqual((papers, paper[2], steps), (kept, pairs, once))


if __name__ == "__main__":
    unittest.main()
