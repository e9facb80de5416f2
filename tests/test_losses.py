"""Promises [130] to [135]: what whole numbers lose against fractions."""

import unittest
from fractions import Fraction
from functools import lru_cache
from itertools import permutations, product
from random import Random

from tallyhull.boxes import boxes, is_box_list
from tallyhull.cheapest import first_solution, is_first
from tallyhull.errors import BadNumber, NoAnswer, NotPaper, NotSide, TooLarge
from tallyhull.losses import (
    box_loss, box_losses, greatest_loss, is_loss_paper, is_lossless, loss_of, loss_paper,
    side_losing)
from tallyhull.matrices import is_cost
from tests.fibers import ALONE, LISTED, WIDE, costs_for, plus, wrong_calls
from tests.samples import (
    FLAT, GAPPED, SLOPED, TWISTED, columns_by_hand, dot, image_by_hand)
from tests.test_boxes import NO_BOXES
from tests.test_cheapest import NO_SIDES, ranked, some_sides
from tests.test_moves import COST, START
from tests.test_optima import as_pair, optimum_by_hand
from tests.test_posts import as_fractions, is_below_by_hand, posts_by_hand
from tests.test_testsets import CUBIC, PLAIN

NO_NUMBERS = [(2, 4), (0, 2), (1, -1), (-1, -3), (1, 0), (0, 0), (6, 3), (-2, 2)]
PAIR, ONES = ((2, 3),), (1, 1)
FULL = ((2, 3), (2, 0), [(((k, 0), (1,)), ((1, 3),)) for k in range(3)])
TOO_MANY = ((2, 6, 0, 5, 0), (9, 4, 8, 6, 8), (7, 8, 6, 7, 9)), (0, 0, 0, 0, 0)


def loss_by_hand(matrix, cost, side):
    """[130], as it stands there, or None."""
    every = ranked(matrix, cost, side)
    if not every:
        return None
    return Fraction(dot(cost, every[0]) - optimum_by_hand(matrix, cost, side))


@lru_cache(maxsize=None)
def box_loss_by_hand(matrix, cost, box):
    """[131]: by the posts that are the cost at the free columns."""
    u, free = box
    columns = columns_by_hand(matrix)
    return min(dot(cost, u) - dot(row, image_by_hand(matrix, u)) for row in posts_by_hand(matrix, cost)
               if all(dot(row, columns[k]) == cost[k] for k in free))


def greatest_by_hand(matrix, cost):
    return max(box_loss_by_hand(matrix, cost, box) for box in boxes(matrix, cost))


class OneSide(unittest.TestCase):
    """[130]"""

    def test_against_all_solutions(self):
        signs = set()
        for matrix in PLAIN:
            for cost in costs_for(matrix):
                for side in some_sides(matrix)[::2]:
                    wanted = loss_by_hand(matrix, cost, side)
                    if wanted is None:
                        with self.assertRaises(NoAnswer):
                            loss_of(matrix, cost, side)
                        continue
                    self.assertEqual(loss_of(matrix, cost, side), as_pair(wanted))
                    self.assertGreaterEqual(wanted, 0)
                    signs.add(wanted > 0)
        self.assertEqual(signs, {True, False})

    def test_by_hand(self):
        self.assertEqual(loss_of(PAIR, ONES, (4,)), (2, 3))
        self.assertEqual(loss_of(PAIR, ONES, (3,)), (0, 1))
        self.assertEqual(loss_of(PAIR, ONES, (5,)), (1, 3))
        self.assertEqual(loss_of(PAIR, ONES, (0,)), (0, 1))
        self.assertEqual(loss_of(PAIR, ONES, (999998,)), (1, 3))
        self.assertEqual(loss_of(PAIR, (3, 3), (4,)), (2, 1))
        self.assertEqual(loss_of(TWISTED, COST, (3, 4)), (1, 1))
        for matrix, side in [(PAIR, (1,)), (PAIR, (-2,)), (SLOPED, (1, 0)), (GAPPED, (1, 2))]:
            with self.assertRaises(NoAnswer):
                loss_of(matrix, (0,) * len(matrix[0]), side)


class Boxes(unittest.TestCase):
    """[131] and [132]"""

    def test_against_the_posts(self):
        for matrix in LISTED + PLAIN:
            for cost in costs_for(matrix)[1:4]:
                found = box_losses(matrix, cost)
                self.assertIsInstance(found, list)
                every = boxes(matrix, cost)
                self.assertEqual(found, [as_pair(box_loss_by_hand(matrix, cost, box))
                                         for box in every])
                for box, loss in list(zip(every, found))[::5]:
                    self.assertEqual(box_loss(matrix, cost, box), loss)

    def test_no_member_loses_more_and_far_ones_as_much(self):
        for matrix in PLAIN:
            for cost in costs_for(matrix):
                for box, loss in zip(boxes(matrix, cost), box_losses(matrix, cost)):
                    u, free = box
                    sizes = [(0, 1, 2, 400) if k in free else (0,) for k in range(len(u))]
                    for added in product(*sizes):
                        member = plus(u, added)
                        side = image_by_hand(matrix, member)
                        lost = dot(cost, member) - optimum_by_hand(matrix, cost, side)
                        self.assertLessEqual(lost, Fraction(*loss))
                        if all(added[k] == 400 for k in free):
                            self.assertEqual(lost, Fraction(*loss))

    def test_what_is_no_standard_box(self):
        for matrix, cost, box in [
                (TWISTED, COST, ((0, 0, 0, 0), (0,))), (TWISTED, COST, ((0, 0, 2, 0), (0, 3))),
                (TWISTED, COST, ((0, 0, 0, 0), (0, 1))), (PAIR, ONES, ((3, 0), (1,))),
                (PAIR, ONES, ((0, 0), ())), (PAIR, ONES, ((0, 1), ())),
                (PAIR, ONES, ((0, 0), (0,)))] + [(TWISTED, COST, box) for box in NO_BOXES]:
            with self.subTest(box=box):
                with self.assertRaises(NotPaper):
                    box_loss(matrix, cost, box)

    def test_the_greatest_loss(self):
        told = {True: 0, False: 0}
        for matrix in LISTED + PLAIN:
            for cost in costs_for(matrix)[:4]:
                wanted = greatest_by_hand(matrix, cost)
                self.assertEqual(greatest_loss(matrix, cost), as_pair(wanted))
                self.assertIs(is_lossless(matrix, cost), wanted == 0)
                told[wanted == 0] += 1
        self.assertGreater(min(told.values()), 50)

    def test_no_small_side_loses_more(self):
        for matrix in PLAIN:
            for cost in costs_for(matrix):
                most = Fraction(*greatest_loss(matrix, cost))
                for side in some_sides(matrix)[::3]:
                    lost = loss_by_hand(matrix, cost, side)
                    self.assertTrue(lost is None or lost <= most)

    def test_by_hand(self):
        for matrix, cost, wanted in [
                (PAIR, (0, 0), (0, 1)), (PAIR, (2, 3), (0, 1)), (PAIR, (0, 1), (1, 1)),
                (PAIR, (1, 0), (2, 1)), (PAIR, (1, 1), (2, 3)), (PAIR, (2, 2), (4, 3)),
                (((1, 1, 1),), (1, 2, 3), (0, 1)), (TWISTED, COST, (1, 1)), (TWISTED, CUBIC, (1, 1)),
                (TWISTED, (0, -1, -1, 0), (0, 1)), (FLAT, (1, 1), (1, 2)), (SLOPED, (9, -9), (0, 1))]:
            with self.subTest(matrix=matrix, cost=cost):
                self.assertEqual(greatest_loss(matrix, cost), wanted)
                self.assertIs(is_lossless(matrix, cost), wanted == (0, 1))
        for matrix in ALONE:
            self.assertIs(is_lossless(matrix, (-7,) * len(matrix[0])), True)


class SidesThatLose(unittest.TestCase):
    """[132]"""

    def test_numbers_up_to_the_greatest_loss(self):
        for matrix in PLAIN:
            for cost in costs_for(matrix):
                most = Fraction(*greatest_loss(matrix, cost))
                for number in (most, most / 2, most / 3, Fraction(0), Fraction(-5, 3)):
                    found = side_losing(matrix, cost, as_pair(number))
                    self.assertIs(is_first(matrix, cost, found), True)
                    side = image_by_hand(matrix, found)
                    lost = dot(cost, found) - optimum_by_hand(matrix, cost, side)
                    self.assertGreaterEqual(lost, number)
                    self.assertEqual(first_solution(matrix, cost, side), found)
                for number in (most + 1, most + Fraction(1, 1000)):
                    self.assertIsNone(side_losing(matrix, cost, as_pair(number)))

    def test_other_matrices(self):
        for matrix in LISTED:
            for cost in costs_for(matrix)[1:4]:
                most = greatest_loss(matrix, cost)
                found = side_losing(matrix, cost, most)
                self.assertEqual(loss_of(matrix, cost, image_by_hand(matrix, found)), most)

    def test_a_member_far_out(self):
        # Only far out at the free columns some members lose what their box loses.
        for matrix, cost, most in [
                (((1, 0, 0, 2, 4), (3, 5, 0, 5, 4), (1, 0, 3, 6, 6)), (1, 1, 1, 1, 1), (279, 10)),
                (((2, 3, 2, 0, 6), (5, 4, 5, 5, 2), (1, 0, 1, 2, 2)), (-2, -1, 2, 2, -1), (2091, 14)),
                (((3, 1, 1, 0, 6), (0, 1, 6, 1, 1), (6, 1, 2, 2, 1)), (-1, 2, -3, 4, -5), (1711, 9))]:
            self.assertEqual(greatest_loss(matrix, cost), most)
            for found in (side_losing(matrix, cost, most), loss_paper(matrix, cost)[1]):
                self.assertIs(is_first(matrix, cost, found), True)
                side = image_by_hand(matrix, found)
                self.assertEqual(as_pair(dot(cost, found) - optimum_by_hand(matrix, cost, side)), most)
            half = Fraction(*most) / 2
            found = side_losing(matrix, cost, as_pair(half))
            side = image_by_hand(matrix, found)
            self.assertGreaterEqual(dot(cost, found) - optimum_by_hand(matrix, cost, side), half)

    def test_what_is_no_fraction(self):
        for number in NO_NUMBERS:
            with self.subTest(number=number):
                with self.assertRaises(BadNumber):
                    side_losing(PAIR, ONES, number)


class Papers(unittest.TestCase):
    """[133]"""

    def test_papers_are_right(self):
        for matrix in PLAIN:
            columns = columns_by_hand(matrix)
            for cost in costs_for(matrix):
                paper = loss_paper(matrix, cost)
                self.assertIsInstance(paper, tuple)
                number, solution, rows = paper
                self.assertEqual(number, greatest_loss(matrix, cost))
                self.assertIs(is_first(matrix, cost, solution), True)
                side = image_by_hand(matrix, solution)
                self.assertEqual(as_pair(dot(cost, solution) - Fraction(
                    optimum_by_hand(matrix, cost, side))), number)
                self.assertIsInstance(rows, list)
                self.assertIs(is_box_list(matrix, cost, [box for box, _ in rows]), True)
                for (u, free), pairs in rows:
                    row = as_fractions(pairs)
                    self.assertTrue(is_below_by_hand(matrix, cost, row))
                    self.assertTrue(all(dot(row, columns[k]) == cost[k] for k in free))
                    self.assertLessEqual(dot(cost, u) - dot(row, image_by_hand(matrix, u)),
                                         Fraction(*number))
                self.assertIs(is_loss_paper(matrix, cost, paper), True)

    def test_papers_of_other_matrices(self):
        for matrix in LISTED:
            for cost in costs_for(matrix)[:3]:
                paper = loss_paper(matrix, cost)
                self.assertIs(is_loss_paper(matrix, cost, paper), True)

    def test_papers_with_something_left_out_or_changed(self):
        source = Random(133)
        for matrix in PLAIN:
            for cost in costs_for(matrix):
                number, solution, rows = loss_paper(matrix, cost)
                k = source.randrange(len(rows))
                self.assertIs(is_loss_paper(
                    matrix, cost, (number, solution, rows[:k] + rows[k + 1:])), False)
                self.assertIs(is_loss_paper(matrix, cost, (number, solution, [])), False)
                self.assertIs(is_loss_paper(matrix, cost, (number, solution, rows[::-1])), True)
                self.assertIs(is_loss_paper(matrix, cost, (number, solution, rows + rows)), True)
                above, below = number
                for other in ((above + below, below), (above - below, below), (above * 2, below * 2),
                              (-above, -below), (1, 10 ** 9 + 7), (above, 0)):
                    if other != number:
                        self.assertIs(is_loss_paper(matrix, cost, (other, solution, rows)), False)
                box, row = rows[k]
                for at, (top, low) in enumerate(row):
                    for change in (1, -1):
                        wrong = row[:at] + ((top + change * low, low),) + row[at + 1:]
                        paper = number, solution, rows[:k] + [(box, wrong)] + rows[k + 1:]
                        self.assertIs(is_loss_paper(matrix, cost, paper),
                                      self.is_row_for(matrix, cost, number, box, wrong))
                if number[0] > 0:
                    self.assertIs(is_loss_paper(
                        matrix, cost, (number, (0,) * len(cost), rows)), False)

    def is_row_for(self, matrix, cost, number, box, pairs):
        row = as_fractions(pairs)
        u, free = box
        columns = columns_by_hand(matrix)
        return (is_below_by_hand(matrix, cost, row)
                and all(dot(row, columns[k]) == cost[k] for k in free)
                and dot(cost, u) - dot(row, image_by_hand(matrix, u)) <= Fraction(*number))

    def test_papers_by_hand(self):
        number, solution, rows = FULL
        self.assertIs(is_loss_paper(PAIR, ONES, FULL), True)
        far = [(((2, 5), ()), ((1, 3),))]
        self.assertIs(is_loss_paper(PAIR, ONES, (number, (2, 7), rows)), True)
        self.assertIs(is_loss_paper(PAIR, ONES, (number, solution, rows + far)), True)
        far = [(((2, 5), ()), ((2, 7),))]
        self.assertIs(is_loss_paper(PAIR, ONES, (number, solution, rows + far)), False)
        third = [(((0, 0), (1,)), ((1, 3),)), (((1, 0), (1,)), ((1, 3),))]
        for paper in [
                ((4, 6), solution, rows), ((-2, -3), solution, rows), ((1, 3), solution, rows),
                ((1, 1), solution, rows), ((2,), solution, rows), ((2, 3, 1), solution, rows),
                ((), solution, rows), (2, solution, rows), ([2, 3], solution, rows),
                (((2, 3), 1), solution, rows), (number, (1, 0), rows), (number, (0, 0), rows),
                (number, (3, 0), rows), (number, (5, 0), rows), (number, (2,), rows),
                (number, (2, 0, 0), rows), (number, (2, -1), rows), (number, (-1, 2), rows),
                (number, (), rows), (number, 2, rows), (number, [2, 0], rows),
                (number, ((2, 0), 0), rows), (number, solution, rows[1:]), (number, solution, rows[:2]),
                (number, solution, []), (number, solution, tuple(rows)), (number, solution, ()),
                (number, solution, 5), (number, solution, [5]), (number, solution, [()]),
                (number, solution, rows + [((3, 0), (1,))]), (number, solution, rows + [rows[0][0]]),
                (number, solution, rows + [(((3, 0), (1,)), ((1, 3),))]),
                (number, solution, third + [(((2, 0), (1,)), ((1, 2),))]),
                (number, solution, third + [(((2, 0), (1,)), ((0, 1),))]),
                (number, solution, third + [(((2, 0), (1,)), ((2, 6),))]),
                (number, solution, third + [(((2, 0), (1,)), ((1, 3), (0, 1)))]),
                (number, solution, third + [(((2, 0), (1,)), ())]),
                (number, solution, third + [(((2, 0), (1,)), (1, 3))]),
                (number, solution, third + [(((2, 0), (1,)), (1,))]),
                (number, solution, third + [(((2, 0), (1,)), ((1, (3,)),))]),
                (number, solution, third + [(((2, 0), (1,)), [(1, 3)])]),
                (number, solution, third + [(((2, 0), (1,)), ((1, 0),))]),
                (number, solution, third + [(((2, 0), (1,)), 5)]),
                (number, solution, third + [(((2, 0), (0, 1)), ((1, 3),))]),
                (number, solution, third + [(((2, 1), (1,)), ((1, 3),))]),
                (number, solution, third + [(((2, 0, 0), (1,)), ((1, 3),))]),
                (number, solution, third + [(((2, 0), (2,)), ((1, 3),))]),
                (number, solution, third + [(((2, 0),), ((1, 3),))]),
                (number, solution, third + [((2, 0), ((1, 3),))]),
                (number, solution, third + [(((2, 0), (1,)), ((1, 3),), ())]),
                (number, solution, [list(pair) for pair in rows]),
                (number, solution), (number, solution, rows, rows), ()]:
            with self.subTest(paper=paper):
                self.assertIs(is_loss_paper(PAIR, ONES, paper), False)

    def test_a_solution_with_the_least_price_that_is_not_first(self):
        number, solution, rows = loss_paper(((1, 1),), (0, 0))
        self.assertIs(is_loss_paper(((1, 1),), (0, 0), (number, (0, 1), rows)), True)
        self.assertIs(is_loss_paper(((1, 1),), (0, 0), (number, (1, 0), rows)), False)

    def test_other_rows_and_boxes_will_do(self):
        # A box that is not standard, split in two, and a row that is no post.
        number, solution, rows = FULL
        split = rows[:2] + [(((2, 0), ()), ((1, 3),)), (((2, 1), ()), ((1, 3),)), rows[2]]
        self.assertIs(is_loss_paper(PAIR, ONES, (number, solution, split)), True)
        low = rows + [(((0, 0), ()), ((-5, 1),)), (((0, 3), ()), ((1, 3),))]
        self.assertIs(is_loss_paper(PAIR, ONES, (number, solution, low)), True)
        self.assertIs(is_loss_paper(
            PAIR, ONES, (number, solution, rows + [(((0, 3), ()), ((-5, 1),))])), False)
        far = number, (2, 10 ** 5), rows
        self.assertIs(is_loss_paper(PAIR, ONES, far), True)


class Changed(unittest.TestCase):
    """[134]"""

    def test_multiples_of_a_cost(self):
        for matrix in PLAIN:
            for cost in costs_for(matrix)[:4]:
                for many in (2, 5):
                    other = tuple(many * entry for entry in cost)
                    self.assertEqual(Fraction(*greatest_loss(matrix, other)),
                                     many * Fraction(*greatest_loss(matrix, cost)))
                    self.assertEqual([Fraction(*loss) for loss in box_losses(matrix, other)],
                                     [many * Fraction(*loss) for loss in box_losses(matrix, cost)])

    def test_rows_added_to_a_cost(self):
        source = Random(134)
        for matrix in PLAIN:
            for cost in costs_for(matrix)[:4]:
                row = tuple(source.randint(-3, 3) for _ in matrix)
                other = plus(cost, tuple(dot(row, column) for column in columns_by_hand(matrix)))
                if is_cost(matrix, other):
                    self.assertEqual(box_losses(matrix, other), box_losses(matrix, cost))
                    self.assertEqual(boxes(matrix, other), boxes(matrix, cost))

    def test_columns_in_another_order(self):
        for matrix, cost in [(TWISTED, (3, 7, -11, 20)), (GAPPED, (1, 5, 17)), (((3, 4, 5),), (1, 8, 30)),
                             (((1, 2, 3),), (7, 1, -9)), (((1, 2, 1, 2), (1, 2, 3, 6)), (2, 9, 5, 31))]:
            for order in permutations(range(len(cost))):
                other = tuple(tuple(row[k] for k in order) for row in matrix)
                self.assertEqual(greatest_loss(other, tuple(cost[k] for k in order)),
                                 greatest_loss(matrix, cost))


class Example(unittest.TestCase):
    """[135]"""

    def test_the_example(self):
        for side in range(2, 40):
            self.assertEqual(Fraction(optimum_by_hand(PAIR, ONES, (side,))), Fraction(side, 3))
        self.assertEqual(boxes(PAIR, ONES), [((0, 0), (1,)), ((1, 0), (1,)), ((2, 0), (1,))])
        self.assertEqual(box_losses(PAIR, ONES), [(0, 1), (1, 3), (2, 3)])
        self.assertEqual([box_loss(PAIR, ONES, box) for box in boxes(PAIR, ONES)],
                         [(0, 1), (1, 3), (2, 3)])
        self.assertEqual(greatest_loss(PAIR, ONES), (2, 3))
        self.assertEqual(loss_of(PAIR, ONES, (4,)), (2, 3))
        self.assertEqual(first_solution(PAIR, ONES, (4,)), (2, 0))


class Wrong(unittest.TestCase):
    """The errors, and their order"""

    def check_errors(self, function, good, wrongs):
        for arguments, error in wrong_calls(good, wrongs):
            with self.subTest(function.__name__, arguments=arguments):
                with self.assertRaises(error):
                    function(*arguments)

    def test_errors(self):
        for function in (box_losses, greatest_loss, is_lossless, loss_paper):
            self.check_errors(function, (TWISTED, COST), START)
        sides = [(2, side, NotSide) for side in NO_SIDES] + [(2, (1, 4), NoAnswer)]
        self.check_errors(loss_of, (TWISTED, COST, (3, 4)), START + sides)
        wrong = [(2, ((0, 0, 0, 0), ()), NotPaper)]
        self.check_errors(box_loss, (TWISTED, COST, ((0, 0, 0, 0), (0, 3))), START + wrong)
        numbers = [(2, number, BadNumber) for number in NO_NUMBERS]
        self.check_errors(side_losing, (TWISTED, COST, (1, 1)), START + numbers)
        self.check_errors(is_loss_paper, (TWISTED, COST, ((1, 1), (0, 0, 1, 0), [])), START)

    def test_too_large(self):
        zeros = (0,) * 6
        for matrix, cost in [(WIDE, zeros), TOO_MANY]:
            u = cost
            for function, more in [
                    (box_losses, ()), (greatest_loss, ()), (is_lossless, ()), (loss_paper, ()),
                    (loss_of, ((0,) * len(matrix),)), (box_loss, ((u, (0,)),)), (box_loss, ((u, ()),)),
                    (side_losing, ((1, 1),)), (is_loss_paper, (((0, 1), u, []),))]:
                with self.subTest(function.__name__):
                    with self.assertRaises(TooLarge):
                        function(matrix, cost, *more)
            with self.assertRaises(BadNumber):
                side_losing(matrix, cost, (2, 2))
            with self.assertRaises(NotSide):
                loss_of(matrix, cost, (0,) * 5)

    def test_fresh_lists(self):
        once = box_losses(PAIR, ONES)
        once.clear()
        self.assertEqual(len(box_losses(PAIR, ONES)), 3)
        once = loss_paper(PAIR, ONES)[2]
        once.clear()
        self.assertEqual(len(loss_paper(PAIR, ONES)[2]), 3)
        given = FULL[2][:]
        is_loss_paper(PAIR, ONES, (FULL[0], FULL[1], given))
        self.assertEqual(given, FULL[2])


if __name__ == "__main__":
    unittest.main()
