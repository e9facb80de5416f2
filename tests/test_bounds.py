"""Promises [260] to [266]: solutions within bounds."""

import unittest
from random import Random

from tallyhull.answers import is_side_answer, shows
from tallyhull.bounds import (
    bound_answer, down_below, down_within, excess, first_within, is_bound_answer, step_below,
    step_within, walk_within)
from tallyhull.cheapest import first_solution
from tallyhull.errors import (
    NoAnswer, NotCost, NotMatrix, NotPointed, NotSide, NotVector, TooLarge)
from tallyhull.graver import graver_list
from tallyhull.testsets import least_test_set
from tests.fibers import (
    LIMIT, LISTED, WIDE, check_errors, costs_for, key_of, minus, plus, solutions_by_hand, stands_at)
from tests.samples import GAPPED, SLOPED, TWISTED, dot, image_by_hand, sides_near
from tests.test_certificates import some_mutants
from tests.test_cheapest import NO_SIDES
from tests.test_moves import COST, NO_SOLUTIONS, START
from tests.test_testsets import PLAIN

LINE = ((1, 1),)
NO_BOUNDS = NO_SOLUTIONS + [(1000001, 0, 0, 0), (0, 0, 0, 10 ** 30), (0, 0, 0, -1)]


def steps_by_hand(matrix):
    return [step for vector in graver_list(matrix)
            for step in (vector, tuple(-entry for entry in vector))]


def excess_by_hand(bounds, vector):
    return sum(entry - bound for entry, bound in zip(vector, bounds) if entry > bound)


def led(vector, step):
    """What a step leads to, or None."""
    found = plus(vector, step)
    return found if min(found) >= 0 else None


def first_by_hand(matrix, cost, bounds, side):
    """The first solution within bounds, by looking at all solutions."""
    every = [x for x in solutions_by_hand(matrix, side) if stands_at(x, bounds)]
    return min(every, key=lambda x: key_of(cost, x)) if every else None


def step_within_by_hand(matrix, cost, bounds, vector):
    for step in steps_by_hand(matrix):
        there = led(vector, step)
        if there is not None and stands_at(there, bounds) and key_of(cost, there) < key_of(cost, vector):
            return step
    return None


def step_below_by_hand(matrix, bounds, vector):
    for step in steps_by_hand(matrix):
        there = led(vector, step)
        if there is not None and excess_by_hand(bounds, there) < excess_by_hand(bounds, vector):
            return step
    return None


def some_bounds(matrix, source):
    many = len(matrix[0])
    return [tuple(source.randint(0, most) for _ in range(many)) for most in (0, 1, 3, 6)]


def answer_by_hand(matrix, cost, bounds, side, answer):
    """[263], as it stands there."""
    if type(answer) is not tuple or len(answer) != 2:
        return False
    kind, x = answer
    if kind == "unsolved":
        return is_side_answer(matrix, cost, side, x) and shows(x) == "none"
    if x not in solutions_by_hand(matrix, side) or type(x) is not tuple or any(type(n) is not int for n in x):
        return False
    if kind == "within":
        return stands_at(x, bounds) and step_within_by_hand(matrix, cost, bounds, x) is None
    return kind == "beyond" and not stands_at(x, bounds) and step_below_by_hand(matrix, bounds, x) is None


class Steps(unittest.TestCase):
    """[260] to [262]"""

    def test_excess(self):
        for bounds, vector, told in [((0, 0, 0, 0), (0, 0, 0, 0), 0), ((1, 0, 3, 2), (0, 0, 3, 0), 0),
                                     ((0, 0, 2, 2), (0, 0, 3, 0), 1), ((0, 0, 0, 0), (1, 2, 3, 4), 10),
                                     ((1, 5, 1, 5), (3, 0, 3, 0), 4), ((1000000,) * 4, (10 ** 30, 0, 0, 1), 10 ** 30 - 10 ** 6)]:
            self.assertEqual(excess(TWISTED, bounds, vector), told)

    def test_steps_against_the_words(self):
        source = Random(261)
        kinds = {}
        for matrix in LISTED:
            for cost in costs_for(matrix)[1:4]:
                for bounds in some_bounds(matrix, source):
                    vector = tuple(source.randint(0, 4) for _ in cost)
                    self.assertEqual(excess(matrix, bounds, vector), excess_by_hand(bounds, vector))
                    found = step_below(matrix, bounds, vector)
                    self.assertEqual(found, step_below_by_hand(matrix, bounds, vector))
                    inside = tuple(min(a, b) for a, b in zip(vector, bounds))
                    other = step_within(matrix, cost, bounds, inside)
                    self.assertEqual(other, step_within_by_hand(matrix, cost, bounds, inside))
                    for at, one in enumerate((found, other)):
                        kinds[at, one is None] = kinds.get((at, one is None), 0) + 1
        self.assertGreater(min(kinds.values()), 50)
        self.assertEqual(len(kinds), 4)

    def check_way(self, matrix, found, start, next_step):
        end, steps = found
        self.assertIsInstance(steps, list)
        here = start
        for step in steps:
            self.assertEqual(next_step(here), step)
            here = plus(here, step)
        self.assertEqual(here, end)
        self.assertIsNone(next_step(end))
        self.assertEqual(image_by_hand(matrix, end), image_by_hand(matrix, start))

    def test_ways(self):
        source = Random(262)
        for matrix in PLAIN:
            for cost in costs_for(matrix)[1:4]:
                for bounds in some_bounds(matrix, source):
                    vector = tuple(source.randint(0, 5) for _ in cost)
                    side = image_by_hand(matrix, vector)
                    wanted = first_by_hand(matrix, cost, bounds, side)
                    below = down_below(matrix, bounds, vector)
                    self.check_way(matrix, below, vector, lambda x: step_below_by_hand(matrix, bounds, x))
                    # [262]: the excess comes down to 0 exactly if there is a solution within the bounds.
                    self.assertEqual(stands_at(below[0], bounds), wanted is not None)
                    if wanted is not None:
                        within = down_within(matrix, cost, bounds, below[0])
                        self.check_way(matrix, within, below[0],
                                       lambda x: step_within_by_hand(matrix, cost, bounds, x))
                        # [261]
                        self.assertEqual(within[0], wanted)

    def test_the_moves_of_the_test_set_do_not_serve(self):
        start = (0, 0, 3, 0)
        ready = [plus(minus(start, head), tail) for head, tail in least_test_set(TWISTED, COST)
                 if stands_at(head, start)]
        self.assertEqual(ready, [(0, 1, 1, 1)])
        self.assertEqual(step_within(TWISTED, COST, (1, 0, 3, 2), start), (1, 0, -3, 2))
        self.assertEqual(down_within(TWISTED, COST, (1, 0, 3, 2), start), ((1, 0, 0, 2), [(1, 0, -3, 2)]))

    def test_bounds_of_zeros(self):
        for matrix in PLAIN:
            zeros = (0,) * len(matrix[0])
            for cost in costs_for(matrix)[:2]:
                self.assertIsNone(step_within(matrix, cost, zeros, zeros))
                self.assertEqual(down_within(matrix, cost, zeros, zeros), (zeros, []))
                self.assertEqual(first_within(matrix, cost, zeros, (0,) * len(matrix)), zeros)
                self.assertEqual(bound_answer(matrix, cost, zeros, (0,) * len(matrix)), ("within", zeros))
            self.assertEqual(down_below(matrix, zeros, zeros), (zeros, []))

    def test_what_is_not_within_the_bounds(self):
        for bounds, vector in [((0, 0, 0, 0), (0, 0, 1, 0)), ((5, 5, 5, 0), (0, 0, 0, 1)), ((1,) * 4, (10 ** 30,) * 4)]:
            for function in (step_within, down_within):
                with self.assertRaises(NoAnswer):
                    function(TWISTED, COST, bounds, vector)
        step_below(TWISTED, (0, 0, 0, 0), (0, 0, 1, 0))


class Firsts(unittest.TestCase):
    """[261], [263] and [264]"""

    def test_first_within(self):
        source = Random(263)
        kinds = {"within": 0, "beyond": 0, "unsolved": 0}
        for matrix in PLAIN + [SLOPED, ((3, 5),)]:
            for cost in costs_for(matrix)[1:4]:
                for side in sides_near(matrix, {1: 14, 2: 4, 3: 2}[len(matrix)])[::5]:
                    for bounds in some_bounds(matrix, source)[1:]:
                        wanted = first_by_hand(matrix, cost, bounds, side)
                        self.assertEqual(first_within(matrix, cost, bounds, side), wanted)
                        answer = bound_answer(matrix, cost, bounds, side)
                        self.assertIsInstance(answer, tuple)
                        self.assertIs(answer_by_hand(matrix, cost, bounds, side, answer), True)
                        self.assertIs(is_bound_answer(matrix, cost, bounds, side, answer), True)
                        if wanted is not None:
                            self.assertEqual(answer, ("within", wanted))
                        else:
                            self.assertEqual(answer[0] == "unsolved", not solutions_by_hand(matrix, side))
                        kinds[answer[0]] += 1
        self.assertGreater(min(kinds.values()), 100)

    def test_wide_bounds(self):
        for matrix in LISTED:
            for cost in costs_for(matrix)[1:3]:
                for vector in [(1,) * len(cost), tuple(range(len(cost)))]:
                    side = image_by_hand(matrix, vector)
                    first = first_solution(matrix, cost, side)
                    self.assertEqual(first_within(matrix, cost, (1000000,) * len(cost), side), first)
                    # [264]: within bounds that have the first solution it is the first one within them.
                    self.assertEqual(first_within(matrix, cost, first, side), first)

    def test_greater_bounds_cost_no_more(self):
        source = Random(264)
        for matrix in PLAIN:
            for cost in costs_for(matrix)[1:4]:
                vector = tuple(source.randint(0, 4) for _ in cost)
                side = image_by_hand(matrix, vector)
                prices = []
                for more in range(4):
                    bounds = plus(vector, (more,) * len(cost))
                    prices.append(dot(cost, first_within(matrix, cost, bounds, side)))
                self.assertEqual(prices, sorted(prices, reverse=True))

    def test_turned_about(self):
        # [265]: with u less all vectors the first ones become the last ones.
        source = Random(265)
        for matrix in PLAIN:
            for cost in costs_for(matrix)[1:4]:
                bounds = tuple(source.randint(0, 4) for _ in cost)
                vector = tuple(source.randint(0, entry) for entry in bounds)
                side = image_by_hand(matrix, vector)
                other = image_by_hand(matrix, minus(bounds, vector))
                inside = {x for x in solutions_by_hand(matrix, side) if stands_at(x, bounds)}
                self.assertEqual({minus(bounds, x) for x in inside},
                                 {x for x in solutions_by_hand(matrix, other) if stands_at(x, bounds)})
                last = max(inside, key=lambda x: key_of(cost, x))
                self.assertEqual(first_within(matrix, cost, bounds, other), minus(bounds, last))

    def test_changed_answers(self):
        source = Random(2630)
        told = {True: 0, False: 0}
        for matrix in PLAIN + [((3, 5),), SLOPED]:
            for cost in costs_for(matrix)[1:3]:
                for side in sides_near(matrix, {1: 14, 2: 4, 3: 2}[len(matrix)])[::9]:
                    bounds = some_bounds(matrix, source)[2]
                    answer = bound_answer(matrix, cost, bounds, side)
                    kinds = [(kind, answer[1]) for kind in ("within", "beyond", "unsolved")]
                    every = [(kind, x) for x in solutions_by_hand(matrix, side)[:6] for kind in ("within", "beyond")]
                    for other in some_mutants(answer, 15) + kinds + every:
                        found = is_bound_answer(matrix, cost, bounds, side, other)
                        self.assertIs(found, answer_by_hand(matrix, cost, bounds, side, other),
                                      (matrix, cost, bounds, side, other))
                        told[found] += 1
        self.assertGreater(min(told.values()), 150)

    def test_answers_told(self):
        for bounds, side, answer, told in [
                ((1, 0, 3, 2), (3, 6), ("within", (1, 0, 0, 2)), True), ((1, 0, 3, 2), (3, 6), ("within", (0, 0, 3, 0)), False),
                ((1, 0, 3, 2), (3, 6), ("within", (0, 1, 1, 1)), False), ((0, 0, 3, 2), (3, 6), ("within", (0, 0, 3, 0)), True),
                ((0, 0, 2, 2), (3, 6), ("beyond", (0, 0, 3, 0)), True), ((0, 0, 2, 2), (3, 6), ("beyond", (1, 0, 0, 2)), True),
                ((0, 0, 2, 2), (3, 6), ("beyond", (0, 1, 1, 1)), True), ((0, 0, 2, 2), (3, 6), ("within", (0, 0, 3, 0)), False),
                ((1, 0, 3, 2), (3, 6), ("beyond", (0, 1, 1, 1)), False), ((1, 0, 3, 2), (3, 6), ("beyond", (0, 0, 3, 0)), False),
                ((1, 1, 1, 1), (1, 4), ("unsolved", ("signs", (3, -1))), True), ((1, 1, 1, 1), (1, 4), ("unsolved", ("signs", (1, 0))), False),
                ((1, 1, 1, 1), (3, 4), ("unsolved", ("first", (1, 1, 0, 1), least_test_set(TWISTED, COST))), False),
                ((1, 1, 1, 1), (1, 4), ("signs", (3, -1)), False), ((1, 1, 1, 1), (1, 4), ("unsolved",), False),
                ((1, 1, 1, 1), (3, 4), ("within", (1, 1, 0, 1)), True), ((1, 1, 1, 1), (3, 5), ("within", (1, 1, 0, 1)), False)]:
            with self.subTest(bounds=bounds, side=side, answer=answer):
                self.assertIs(is_bound_answer(TWISTED, COST, bounds, side, answer), told)
        self.assertIs(is_bound_answer(GAPPED, (0, 0, 1), (9, 9, 9), (1, 2), ("unsolved", ("hole", (1, 2), (0, 0, 0)))), True)
        self.assertIs(is_bound_answer(SLOPED, (0, 0), (9, 9), (1, 0), ("unsolved", ("rest", (1, 0), 2))), True)


class Walks(unittest.TestCase):
    """[264]"""

    def test_walks(self):
        source = Random(2640)
        longer = 0
        for matrix in LISTED:
            steps = set(steps_by_hand(matrix))
            for _ in range(4):
                one = tuple(source.randint(0, 5) for _ in matrix[0])
                other = source.choice(solutions_by_hand(matrix, image_by_hand(matrix, one)))
                bounds = tuple(max(a, b) + source.randint(0, 1) for a, b in zip(one, other))
                found = walk_within(matrix, bounds, one, other)
                self.assertIsInstance(found, list)
                self.assertEqual((found[0], found[-1]), (one, other))
                for vector in found:
                    self.assertTrue(min(vector) >= 0 and stands_at(vector, bounds))
                for here, there in zip(found, found[1:]):
                    self.assertIn(minus(there, here), steps)
                longer += len(found) > 2
        self.assertGreater(longer, 30)

    def test_walks_there_are_not(self):
        bounds = (2, 2, 2, 2)
        for one, other in [((0, 0, 3, 0), (0, 1, 1, 1)), ((0, 1, 1, 1), (0, 0, 3, 0)), ((1, 0, 0, 0), (0, 1, 0, 0)),
                           ((0, 0, 0, 0), (0, 0, 0, 1)), ((0, 0, 0, 9), (0, 0, 0, 9))]:
            with self.assertRaises(NoAnswer):
                walk_within(TWISTED, bounds, one, other)
        self.assertEqual(walk_within(TWISTED, bounds, (1, 0, 0, 2), (1, 0, 0, 2)), [(1, 0, 0, 2)])
        self.assertEqual(walk_within(TWISTED, (1, 0, 3, 2), (0, 0, 3, 0), (1, 0, 0, 2)), [(0, 0, 3, 0), (1, 0, 0, 2)])


class Limits(unittest.TestCase):

    def test_long_ways(self):
        wide = (1000000, 1000000)
        for most, is_long in [(5000, False), (5001, True)]:
            for function, arguments, end in [
                    (down_within, ((0, 0), wide, (most, 0)), (0, most)),
                    (down_below, ((0, 1000000), (most, 0)), (0, most))]:
                if is_long:
                    with self.assertRaises(TooLarge):
                        function(LINE, *arguments)
                else:
                    found = function(LINE, *arguments)
                    self.assertEqual(found, (end, [(-1, 1)] * most))
        # The excess comes down from that of the first solution, (0, n).
        self.assertEqual(first_within(LINE, (0, 0), (1000000, 0), (5000,)), (5000, 0))
        for function in (first_within, bound_answer):
            with self.assertRaises(TooLarge):
                function(LINE, (0, 0), (1000000, 0), (5001,))
        # No step is needed, whatever the bounds are.
        self.assertEqual(first_within(LINE, (0, 0), wide, (1000000,)), (0, 1000000))

    def test_long_walks(self):
        wide = (1000000, 1000000)
        self.assertEqual(len(walk_within(LINE, wide, (2000, 0), (0, 2000))), 2001)
        with self.assertRaises(TooLarge):
            walk_within(LINE, wide, (2001, 0), (0, 2001))
        with self.assertRaises(NoAnswer):
            walk_within(LINE, (2000, 2001), (2001, 0), (0, 2001))

    def test_far_vectors(self):
        self.assertEqual(down_below(LINE, (0, 0), (10 ** 30, 0)), ((10 ** 30, 0), []))
        self.assertIsNone(step_below(LINE, (0, 0), (10 ** 30, 0)))
        self.assertEqual(step_below(LINE, (0, 7), (10 ** 30, 0)), (-1, 1))
        with self.assertRaises(TooLarge):
            down_below(LINE, (0, 1000000), (10 ** 30, 0))


class Example(unittest.TestCase):
    """[266]"""

    def test_the_example(self):
        matrix, cost, side = ((1, 1, 1, 1), (0, 1, 2, 3)), (0, 1, 1, 0), (3, 6)
        self.assertEqual(excess(matrix, (1, 0, 3, 2), (0, 0, 3, 0)), 0)
        self.assertEqual(step_within(matrix, cost, (1, 0, 3, 2), (0, 0, 3, 0)), (1, 0, -3, 2))
        self.assertEqual(first_within(matrix, cost, (1, 0, 3, 2), side), (1, 0, 0, 2))
        self.assertEqual(first_within(matrix, cost, (0, 0, 3, 2), side), (0, 0, 3, 0))
        self.assertIsNone(first_within(matrix, cost, (0, 0, 2, 2), side))
        self.assertIs(is_bound_answer(matrix, cost, (0, 0, 2, 2), side, ("beyond", (0, 0, 3, 0))), True)
        self.assertEqual(bound_answer(matrix, cost, (0, 0, 2, 2), side)[0], "beyond")


class Wrong(unittest.TestCase):
    """The errors, and their order"""

    def test_errors(self):
        good, inner = (5, 5, 5, 5), (1, 2, 1, 0)
        start = START[:2]
        first = [(1, bounds, NotVector) for bounds in NO_BOUNDS]
        second = [(2, bounds, NotVector) for bounds in NO_BOUNDS]
        for function in (excess, step_below, down_below):
            vectors = [(2, vector, NotVector) for vector in NO_SOLUTIONS]
            check_errors(self, function, (TWISTED, good, inner), start + first + vectors)
        vectors = [(3, vector, NotVector) for vector in NO_SOLUTIONS] + [(3, (6, 0, 0, 0), NoAnswer)]
        for function in (step_within, down_within):
            check_errors(self, function, (TWISTED, COST, good, inner), START + second + vectors)
        sides = [(3, side, NotSide) for side in NO_SIDES]
        for function in (first_within, bound_answer):
            check_errors(self, function, (TWISTED, COST, good, (3, 4)), START + second + sides)
        check_errors(self, is_bound_answer, (TWISTED, COST, good, (3, 4), ("within", (1, 1, 0, 1))),
                     START + second + sides)
        vectors = [(at, vector, NotVector) for at in (2, 3) for vector in NO_SOLUTIONS]
        outer = [(2, (6, 0, 0, 0), NoAnswer), (3, (0, 0, 0, 6), NoAnswer), (3, (1, 1, 1, 0), NoAnswer)]
        check_errors(self, walk_within, (TWISTED, good, inner, inner), start + first + vectors + outer)

    def test_too_large(self):
        zeros = (0,) * 6
        start = [(0, ((9, 8, 7, 6, 5, 10),), NotMatrix), (0, ((9, 8, 7, 6, 5, -4),), NotPointed)]
        ones = (1,) * 6
        for function, more in [(excess, (zeros,)), (step_below, (zeros,)), (down_below, (zeros,)),
                               (walk_within, (zeros, zeros)), (walk_within, (zeros, ones)), (walk_within, (ones, ones))]:
            check_errors(self, function, (WIDE, zeros) + more,
                         start + [(1, zeros[1:], NotVector), (2, (-1,) * 6, NotVector)])
            with self.assertRaises(TooLarge):
                function(WIDE, zeros, *more)
        start.append((1, zeros[1:], NotCost))
        for function, more, error in [
                (step_within, (zeros,), NotVector), (down_within, (ones,), NotVector), (first_within, ((0,),), NotSide),
                (bound_answer, ((0,),), NotSide), (is_bound_answer, ((0,), ("within", zeros)), NotSide),
                (is_bound_answer, ((-1,), ("unsolved", ("signs", (1,)))), NotSide)]:
            check_errors(self, function, (WIDE, zeros, zeros) + more,
                         start + [(2, zeros[1:], NotVector), (3, (0, 0), error)])
            with self.assertRaises(TooLarge):
                function(WIDE, zeros, zeros, *more)
        self.assertEqual(first_within(LIMIT, zeros, ones, (16,)), ones)
        # first_solution wants boxes, too.
        matrix, cost = ((2, 6, 0, 5, 0), (9, 4, 8, 6, 8), (7, 8, 6, 7, 9)), (0, 0, 0, 0, 0)
        self.assertIsNone(step_within(matrix, cost, (1,) * 5, (0,) * 5))
        with self.assertRaises(TooLarge):
            first_within(matrix, cost, (1,) * 5, (2, 9, 7))

    def test_fresh_lists(self):
        bounds, start = (1, 0, 3, 2), (0, 0, 3, 0)
        for function, arguments in [(down_within, (COST, bounds, start)), (down_below, ((1, 0, 2, 2), start))]:
            end, steps = function(TWISTED, *arguments)
            kept = list(steps)
            steps.clear()
            self.assertTrue(kept)
            self.assertEqual(function(TWISTED, *arguments), (end, kept))
        once = walk_within(TWISTED, bounds, start, (1, 0, 0, 2))
        once.clear()
        self.assertEqual(len(walk_within(TWISTED, bounds, start, (1, 0, 0, 2))), 2)


if __name__ == "__main__":
    unittest.main()
