"""What the document promises over the whole program: all ways to ask of a side agree."""

import unittest
from fractions import Fraction
from random import Random

from tallyhull.alikes import change_between, least_columns
from tallyhull.answers import side_answer
from tallyhull.bounds import bound_answer, first_within, is_bound_answer
from tallyhull.boxes import boxes, first_by_boxes
from tallyhull.certificates import lattice_shown, loss_shown, optimum_shown, papers_shown, pointed_shown, side_shown
from tallyhull.cheapest import first_from, first_solution, is_first, optimum, second_solution
from tallyhull.cones import is_in_cone
from tallyhull.desk import Desk
from tallyhull.graver import graver_list
from tallyhull.hilbert import full_sum, is_full
from tallyhull.holeboxes import hole_paper, is_hole, is_solved, kind_of_side
from tallyhull.journal import Journal, resume
from tallyhull.lattices import lattice_answer
from tallyhull.linear import image_of
from tallyhull.losses import greatest_loss, loss_of, loss_paper
from tallyhull.matrices import pointed_answer
from tallyhull.optima import fraction_optimum, optimum_paper
from tallyhull.reached import hole_numbers, inner_numbers, solved_numbers
from tallyhull.relaxed import best_bound, exact_cells, is_exact, relaxed_first
from tallyhull.siderows import row_law, row_values, value_by_law
from tallyhull.solutions import column_range, solution_number, solutions
from tallyhull.staircases import cells
from tallyhull.testsets import least_test_set
from tallyhull.texts import matrix_text, tuple_text
from tallyhull.turns import first_at, turning_list
from tests.fibers import costs_for, key_of, plus
from tests.samples import GAPPED, SLOPED, TWISTED, columns_by_hand, dot, sides_near
from tests.test_holes import PLAIN as HOLED
from tests.test_siderows import along
from tests.test_testsets import PLAIN

MATRICES = [TWISTED, GAPPED, SLOPED] + PLAIN[2:12:3] + HOLED[4:20:3]
NEAR = {1: 14, 2: 4, 3: 2}


def asked():
    """Matrices, costs and sides: solved ones, holes, and sides out of cone and lattice."""
    source = Random(100)
    for matrix in MATRICES:
        for cost in costs_for(matrix)[1:4]:
            near = sides_near(matrix, NEAR[len(matrix)])
            yield matrix, cost, source.sample(near, min(len(near), 12))


class OneSide(unittest.TestCase):

    def test_kinds_and_solutions(self):
        kinds = set()
        for matrix, cost, sides in asked():
            for side in sides:
                kind = kind_of_side(matrix, side)
                kinds.add(kind)
                every = solutions(matrix, side)
                self.assertEqual(solution_number(matrix, side), len(every))
                self.assertEqual(kind == "solved", bool(every))
                self.assertIs(is_solved(matrix, side), bool(every))
                self.assertIs(is_hole(matrix, side), kind == "hole")
                self.assertEqual(hole_paper(matrix, side) is not None, kind == "hole")
                self.assertIs(is_in_cone(matrix, side), kind != "outside")
                self.assertIs(is_full(matrix, side), kind in ("solved", "hole"))
                self.assertEqual(lattice_answer(matrix, side)[0] == "rest" and kind != "outside", kind == "rest")
                ranked = sorted(every, key=lambda x: key_of(cost, x))
                self.assertEqual(first_solution(matrix, cost, side), ranked[0] if ranked else None)
                self.assertEqual(first_by_boxes(matrix, cost, side), ranked[0] if ranked else None)
                self.assertEqual(second_solution(matrix, cost, side), ranked[1] if ranked[1:] else None)
                for x in ranked[:3]:
                    self.assertEqual(first_from(matrix, cost, x), ranked[0])
                    self.assertIs(is_first(matrix, cost, x), x == ranked[0])
                    self.assertEqual(first_at(matrix, cost, cost, (0, 1), x), ranked[0])
                ends = column_range(matrix, side, 0)
                self.assertEqual(ends, (min(every)[0], max(every)[0]) if every else None)
                if kind in ("solved", "hole"):
                    total = [0] * len(side)
                    for part, times in full_sum(matrix, side):
                        total = [a + times * b for a, b in zip(total, part)]
                    self.assertEqual(tuple(total), side)
        self.assertEqual(kinds, {"solved", "outside", "rest", "hole"})

    def test_answers_and_papers(self):
        for matrix, cost, sides in asked():
            weight = pointed_answer(matrix)
            self.assertEqual(pointed_shown(matrix, weight), "weight")
            papers = weight[1], graver_list(matrix), least_test_set(matrix, cost), boxes(matrix, cost)
            self.assertIs(papers_shown(matrix, cost, papers), True)
            paper = loss_paper(matrix, cost)
            best = optimum_paper(matrix, cost, image_of(matrix, paper[1]))
            self.assertEqual(loss_shown(matrix, cost, papers, paper, best), greatest_loss(matrix, cost))
            for side in sides:
                answer = side_answer(matrix, cost, side)
                kind = kind_of_side(matrix, side)
                self.assertEqual(answer[0], {"solved": "first", "outside": "signs"}.get(kind, kind))
                self.assertEqual(side_shown(matrix, cost, side, papers, answer), "first" if kind == "solved" else "none")
                told = lattice_answer(matrix, side)
                self.assertEqual(lattice_shown(matrix, side, told), told[0])
                if kind != "outside":
                    self.assertIs(optimum_shown(matrix, cost, side, optimum_paper(matrix, cost, side)), True)

    def test_prices(self):
        for matrix, cost, sides in asked():
            greatest = Fraction(*greatest_loss(matrix, cost))
            for side in sides:
                if kind_of_side(matrix, side) != "solved":
                    self.assertIsNone(optimum(matrix, cost, side))
                    continue
                first = first_solution(matrix, cost, side)
                best = optimum(matrix, cost, side)
                low = Fraction(*fraction_optimum(matrix, cost, side))
                self.assertEqual(best, dot(cost, first))
                self.assertEqual(Fraction(*loss_of(matrix, cost, side)), best - low)
                self.assertLessEqual(best - low, greatest)
                bound = best_bound(matrix, cost, side)
                self.assertLessEqual(low, bound)
                self.assertLessEqual(bound, best)
                for cell in cells(matrix, cost):
                    relaxed = relaxed_first(matrix, cost, cell, side)
                    self.assertEqual(relaxed == first, is_exact(matrix, cost, cell, side))
                    self.assertEqual(cell in exact_cells(matrix, cost, side), min(relaxed) >= 0)

    def test_bounds(self):
        source = Random(101)
        for matrix, cost, sides in asked():
            for side in sides:
                every = sorted(solutions(matrix, side), key=lambda x: key_of(cost, x))
                for most in (0, 2, 1000000):
                    bounds = tuple(source.randint(min(most, 3), most) for _ in cost)
                    inside = [x for x in every if all(a <= b for a, b in zip(x, bounds))]
                    found = first_within(matrix, cost, bounds, side)
                    self.assertEqual(found, inside[0] if inside else None)
                    answer = bound_answer(matrix, cost, bounds, side)
                    self.assertEqual(answer[0], "within" if inside else "beyond" if every else "unsolved")
                    self.assertIs(is_bound_answer(matrix, cost, bounds, side, answer), True)
                self.assertEqual(first_within(matrix, cost, (1000000,) * len(cost), side),
                                 first_solution(matrix, cost, side))

    def test_rows_of_sides(self):
        for matrix, cost, sides in asked():
            for side, step in zip(sides, columns_by_hand(matrix) + [(1,) * len(matrix)]):
                values = row_values(matrix, cost, side, step, 6)
                rule = row_law(matrix, cost, side, step)
                for k, value in enumerate(values):
                    there = along(side, step, k)
                    self.assertEqual(value, optimum(matrix, cost, there))
                    self.assertEqual(value is not None, kind_of_side(matrix, there) == "solved")
                    if k >= rule[0]:
                        self.assertEqual(value_by_law(rule, k), value)

    def test_levels(self):
        for matrix in MATRICES:
            weight = pointed_answer(matrix)[1]
            near = sides_near(matrix, {1: 40, 2: 12, 3: 5}[len(matrix)])
            told = {kind: [0, 0] for kind in ("solved", "hole", "outside", "rest")}
            for side in near:
                if 0 <= dot(weight, side) < 2:
                    told[kind_of_side(matrix, side)][dot(weight, side)] += 1
            # Sides of these levels have entries that are less than those of all columns together.
            self.assertEqual(solved_numbers(matrix, weight, 1), told["solved"])
            self.assertEqual(hole_numbers(matrix, weight, 1), told["hole"])
            self.assertEqual(inner_numbers(matrix, weight, 1), [a + b for a, b in zip(told["solved"], told["hole"])])

    def test_costs_on_a_line(self):
        for matrix, cost, sides in asked():
            turn = costs_for(matrix)[4]
            for place, moves in turning_list(matrix, cost, turn):
                along_turn = [a + Fraction(*place) * b for a, b in zip(cost, turn)]
                for side in sides[:3]:
                    every = solutions(matrix, side)
                    if every:
                        first = min(every, key=lambda x: (dot(along_turn, x), x))
                        self.assertEqual(first_at(matrix, cost, turn, place, every[-1]), first)
                        self.assertFalse(any(all(a <= b for a, b in zip(head, first)) for head, _ in moves))

    def test_matrices_that_are_alike(self):
        for matrix, cost, sides in asked():
            fewer = tuple(zip(*least_columns(matrix)))
            turned = tuple(row[::-1] for row in matrix[::-1])
            order, change = change_between(matrix, turned)
            for side in sides:
                self.assertEqual(kind_of_side(fewer, side), kind_of_side(matrix, side))
                other = tuple(dot(row, side) for row in change)
                self.assertEqual(kind_of_side(turned, other), kind_of_side(matrix, side))
                self.assertEqual(solution_number(turned, other), solution_number(matrix, side))
            self.assertEqual(sorted(order), list(range(len(cost))))

    def test_the_desk_says_the_same(self):
        journal = Journal()
        desk = Desk()
        for matrix, cost, sides in asked():
            lines = [f"matrix m {matrix_text(matrix)}", f"tuple c {tuple_text(cost)}"]
            for side in sides[:4]:
                first = first_solution(matrix, cost, side)
                lines += [f"tuple b {tuple_text(side)}", "kind m b", "first m c b", "best m c b", "count m b", "bound m c b"]
                found = [desk.answer(line) for line in lines]
                bound = best_bound(matrix, cost, side)
                self.assertEqual(found[-5:], [
                    kind_of_side(matrix, side), "none" if first is None else tuple_text(first),
                    "none" if first is None else str(dot(cost, first)), str(solution_number(matrix, side)),
                    "none" if bound is None else str(bound)])
                self.assertEqual([journal.answer(line) for line in lines], found)
                lines = []
        again = resume(journal.record())
        self.assertEqual(again.record(), journal.record())
        self.assertEqual(again.answer("show m"), journal.answer("show m"))

    def test_sums_of_sides(self):
        for matrix, cost, sides in asked():
            solved = [side for side in sides if is_solved(matrix, side)]
            for one, other in zip(solved, solved[1:]):
                total = plus(one, other)
                self.assertIs(is_solved(matrix, total), True)
                self.assertLessEqual(optimum(matrix, cost, total), optimum(matrix, cost, one) + optimum(matrix, cost, other))


if __name__ == "__main__":
    unittest.main()
