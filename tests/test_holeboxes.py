"""Promises [140], [143] to [147]: stops, hole boxes, kinds of sides, endless holes."""

import unittest
from functools import lru_cache
from itertools import permutations, product
from random import Random

from tallyhull.errors import NoAnswer, NotMatrix, NotPointed, NotSide, TooLarge
from tallyhull.holeboxes import (
    all_holes, endless_hole, hole_boxes, hole_paper, is_hole, is_hole_paper, is_solved,
    kind_of_side, stops_of_hole)
from tallyhull.holes import fundamental_holes, is_normal
from tests.fibers import ALONE, plus, solutions_by_hand, stands_at, wrong_calls
from tests.samples import (
    FLAT, GAPPED, SLOPED, TWISTED, columns_by_hand, first_by_hand, image_by_hand, sides_near)
from tests.test_cheapest import NO_SIDES
from tests.test_holes import PLAIN, SOLID, TOO_MANY, WIDER, is_in_lattice_by_hand
from tests.test_staircases import RINGS

NEAR = {1: 40, 2: 9, 3: 4}
HOLED = [matrix for matrix in PLAIN + SOLID if not is_normal(matrix)]
START = [(0, ((1, 1, 1, 10), (0, 1, 2, 3)), NotMatrix), (0, RINGS, NotPointed)]
# With the hole, turned, as one column more their lists have 399, and 401 vectors.
LONG = ((5, 6, 5, 5, 7), (2, 2, 2, 4, 1)), (2, 1)
TOO_LONG = ((7, 7, 3, 4, 2), (3, 3, 0, 9, 4)), (1, 2)


@lru_cache(maxsize=None)
def kind_by_hand(matrix, side):
    """[140], as it stands there."""
    if solutions_by_hand(matrix, side):
        return "solved"
    if first_by_hand(matrix, side) is None:
        return "outside"
    return "hole" if is_in_lattice_by_hand(matrix, side) else "rest"


def stops_by_hand(matrix, hole, most):
    """[143], as it stands there: the stops with entries of at most so much."""
    found = []
    for times in sorted(product(range(most + 1), repeat=len(matrix[0])), key=sum):
        if not any(stands_at(stop, times) for stop in found):
            if solutions_by_hand(matrix, plus(hole, image_by_hand(matrix, times))):
                found.append(times)
    return sorted(found)


class Kinds(unittest.TestCase):
    """[140]"""

    def test_small_sides(self):
        counts = dict.fromkeys(["solved", "outside", "rest", "hole"], 0)
        for matrix in PLAIN + SOLID:
            for side in sides_near(matrix, NEAR[len(matrix)])[::2]:
                wanted = kind_by_hand(matrix, side)
                self.assertEqual(kind_of_side(matrix, side), wanted, (matrix, side))
                self.assertIs(is_solved(matrix, side), wanted == "solved")
                self.assertIs(is_hole(matrix, side), wanted == "hole")
                counts[wanted] += 1
        self.assertGreater(min(counts.values()), 30)

    def test_by_hand(self):
        for matrix, side, wanted in [
                (GAPPED, (1, 2), "hole"), (GAPPED, (2, 3), "solved"), (GAPPED, (1, 4), "outside"),
                (GAPPED, (0, 0), "solved"), (SLOPED, (7, 8), "rest"), (SLOPED, (1, 0), "outside"),
                (FLAT, (1, 2), "solved"), (FLAT, (1, 3), "outside"), (((4, 6),), (2,), "hole"),
                (((4, 6),), (7,), "rest"), (((4, 6),), (-2,), "outside"), (((4, 6),), (-1,), "outside"),
                (((9,),), (8,), "rest"), (((-3, -5),), (-7,), "hole"), (((-3, -5),), (-8,), "solved")]:
            with self.subTest(matrix=matrix, side=side):
                self.assertEqual(kind_of_side(matrix, side), wanted)

    def test_great_sides(self):
        for matrix, side, wanted in [
                (GAPPED, (300000, 899999), "hole"), (GAPPED, (300000, 899998), "solved"),
                (GAPPED, (300000, 900000), "solved"), (GAPPED, (300000, 900001), "outside"),
                (SLOPED, (999999, 999999), "rest"), (SLOPED, (999996, 999996), "solved"),
                (((3, 5),), (1000000,), "solved"), (((4, 6),), (999999,), "rest"),
                (WIDER, (200000, 799999), "hole"), (WIDER, (200000, 799998), "hole"),
                (WIDER, (200000, 799997), "solved"), (WIDER, (200000, 799996), "solved")]:
            with self.subTest(matrix=matrix, side=side):
                self.assertEqual(kind_of_side(matrix, side), wanted)

    def test_a_hole_and_a_column(self):
        # [146]: what is made is a hole or solved.
        for matrix in HOLED:
            for hole in fundamental_holes(matrix):
                for times in product(range(3), repeat=len(matrix[0])):
                    side = plus(hole, image_by_hand(matrix, times))
                    self.assertIn(kind_of_side(matrix, side), ("hole", "solved"))


class Stops(unittest.TestCase):
    """[143]"""

    def test_against_the_words(self):
        many = 0
        for matrix in HOLED:
            most = {2: 9, 3: 4, 4: 2}[len(matrix[0])]
            for hole, stops in hole_boxes(matrix):
                self.assertEqual(stops, stops_of_hole(matrix, hole))
                self.assertIsInstance(stops, list)
                self.assertTrue(stops)
                self.assertEqual(stops, sorted(set(stops)))
                self.assertEqual([stop for stop in stops if max(stop) <= most],
                                 stops_by_hand(matrix, hole, most))
                for stop in stops:
                    self.assertFalse(any(stands_at(other, stop) for other in stops if other != stop))
                    self.assertTrue(
                        solutions_by_hand(matrix, plus(hole, image_by_hand(matrix, stop))))
                many += len(stops)
        self.assertGreater(many, 60)

    def test_all_holes_are_told_by_the_boxes(self):
        for matrix in HOLED:
            found = hole_boxes(matrix)
            self.assertEqual([hole for hole, _ in found], fundamental_holes(matrix))
            for hole, stops in found:
                for times in product(range(4), repeat=len(matrix[0])):
                    side = plus(hole, image_by_hand(matrix, times))
                    self.assertIs(is_hole(matrix, side),
                                  not any(stands_at(stop, times) for stop in stops))

    def test_normal_matrices(self):
        for matrix in [TWISTED, FLAT, SLOPED, ((1, 0, 1), (0, 1, 1))] + ALONE:
            self.assertEqual(hole_boxes(matrix), [])
            self.assertIsNone(endless_hole(matrix))
            self.assertEqual(all_holes(matrix), [])

    def test_by_hand(self):
        self.assertEqual(hole_boxes(((2, 3),)), [((1,), [(0, 1), (1, 0)])])
        self.assertEqual(hole_boxes(((3, 5),)), [
            ((1,), [(0, 1), (3, 0)]), ((2,), [(0, 2), (1, 0)])])
        self.assertEqual(hole_boxes(((4, 6),)), [((2,), [(0, 1), (1, 0)])])
        self.assertEqual(hole_boxes(((0, 0), (2, 3))), [((0, 1), [(0, 1), (1, 0)])])
        self.assertEqual(hole_boxes(WIDER), [
            ((1, 2), [(0, 2, 0), (1, 0, 0)]), ((1, 3), [(0, 1, 0), (2, 0, 0)])])

    def test_what_is_no_fundamental_hole(self):
        for matrix, side in [(GAPPED, (0, 0)), (GAPPED, (1, 1)), (GAPPED, (2, 5)), (GAPPED, (2, 3)),
                             (GAPPED, (1, 4)), (SLOPED, (7, 8)), (TWISTED, (1, 2)), (((3, 5),), (4,)),
                             (((3, 5),), (7,)), (((3, 5),), (-1,)), (((4, 6),), (1,))]:
            with self.subTest(matrix=matrix, side=side):
                with self.assertRaises(NoAnswer):
                    stops_of_hole(matrix, side)


class Papers(unittest.TestCase):
    """[144]"""

    def test_small_sides(self):
        for matrix in HOLED:
            stops = dict(hole_boxes(matrix))
            for side in sides_near(matrix, NEAR[len(matrix)])[::3]:
                paper = hole_paper(matrix, side)
                if kind_by_hand(matrix, side) != "hole":
                    self.assertIsNone(paper)
                    continue
                self.assertIsInstance(paper, tuple)
                hole, times = paper
                self.assertIn(hole, stops)
                self.assertEqual(plus(hole, image_by_hand(matrix, times)), side)
                self.assertGreaterEqual(min(times), 0)
                self.assertFalse(any(stands_at(stop, times) for stop in stops[hole]))
                self.assertIs(is_hole_paper(matrix, side, paper), True)

    def test_no_paper_for_other_sides(self):
        for matrix, side in [(GAPPED, (2, 3)), (GAPPED, (1, 4)), (SLOPED, (7, 8)), (TWISTED, (3, 4)),
                             (((4, 6),), (7,)), (((4, 6),), (0,)), (((4, 6),), (-2,))]:
            self.assertIsNone(hole_paper(matrix, side))
            low = (1,) * len(matrix)
            for hole in (low, side, (0,) * len(matrix)):
                self.assertIs(is_hole_paper(matrix, side, (hole, (0,) * len(matrix[0]))), False)

    def test_changed_papers(self):
        source = Random(144)
        for matrix in HOLED:
            stops = dict(hole_boxes(matrix))
            for hole in stops:
                for _ in range(12):
                    times = tuple(source.randint(0, 4) for _ in matrix[0])
                    side = plus(hole, image_by_hand(matrix, times))
                    told = not any(stands_at(stop, times) for stop in stops[hole])
                    self.assertIs(is_hole_paper(matrix, side, (hole, times)), told)
                    self.assertEqual(told, not solutions_by_hand(matrix, side))
                    k = source.randrange(len(times))
                    for change in (-1, 1):
                        other = times[:k] + (times[k] + change,) + times[k + 1:]
                        self.assertIs(is_hole_paper(matrix, side, (hole, other)), False)
                    self.assertIs(is_hole_paper(matrix, plus(side, (1,) * len(side)),
                                                (hole, times)), False)

    def test_papers_that_are_none(self):
        side = (3, 8)
        self.assertIs(is_hole_paper(GAPPED, side, ((1, 2), (0, 0, 2))), True)
        for paper in [((1, 2), (0, 0)), ((1, 2), (0, 0, 2, 0)), ((1,), (0, 0, 2)), ((), ()),
                      ((1, 2, 0), (0, 0, 2)), ((3, 8), (0, 0, 0)), ((2, 5), (0, 0, 1)),
                      ((4, 11), (0, 0, -1)), ((2, 2), (0, 0, 2)), ((1, 2), (0, 0, 1)),
                      ((10 ** 30, 2), (0, 0, 2)), ((1, 2), (10 ** 30, 0, 2))]:
            with self.subTest(paper=paper):
                self.assertIs(is_hole_paper(GAPPED, side, paper), False)
        self.assertIs(is_hole_paper(GAPPED, (2, 3), ((1, 2), (0, 1, 0))), False)
        self.assertIs(is_hole_paper(GAPPED, (0, 0), ((0, 0), (0, 0, 0))), False)
        self.assertIs(is_hole_paper(GAPPED, (0, -1), ((1, 2), (0, 0, -1))), False)
        self.assertIs(is_hole_paper(GAPPED, (2, 5), ((1, 2), (-1, 0, 2))), False)
        self.assertIs(is_hole_paper(GAPPED, (1, 3), ((1, 2), (-2, 1, 1))), False)
        self.assertIs(is_hole_paper(SLOPED, (7, 8), ((7, 8), (0, 0))), False)
        self.assertIs(is_hole_paper(SLOPED, (1, 0), ((1, 0), (0, 0))), False)


class Endless(unittest.TestCase):
    """[145]"""

    def pure(self, stops, k):
        return any(not any(entry for j, entry in enumerate(stop) if j != k) for stop in stops)

    def test_either_endless_or_finitely_many(self):
        told = {True: 0, False: 0}
        for matrix in PLAIN + SOLID:
            boxes = hole_boxes(matrix)
            wanted = next(((hole, k) for hole, stops in boxes for k in range(len(matrix[0]))
                           if not self.pure(stops, k)), None)
            found = endless_hole(matrix)
            self.assertEqual(found, wanted)
            told[found is None] += 1
            if found is None:
                self.assertIsInstance(all_holes(matrix), list)
                continue
            with self.assertRaises(NoAnswer):
                all_holes(matrix)
            hole, k = found
            side = hole
            for _ in range(30):
                self.assertIs(is_hole(matrix, side), True)
                side = plus(side, columns_by_hand(matrix)[k])
        self.assertGreater(min(told.values()), 5)

    def test_finitely_many_holes(self):
        for matrix, wanted in [
                (((2, 3),), [(1,)]), (((3, 5),), [(1,), (2,), (4,), (7,)]), (((4, 6),), [(2,)]),
                (((-3, -5),), [(-7,), (-4,), (-2,), (-1,)]), (((9,),), []), (((6, 9),), [(3,)]),
                (((0, 0), (2, 3)), [(0, 1)]), (((2, 3), (-4, -6)), [(1, -2)]),
                (((1, 1, 1, 1), (0, 1, 3, 4)), [(1, 2)]), (TWISTED, [])]:
            with self.subTest(matrix=matrix):
                self.assertEqual(all_holes(matrix), wanted)
        coins = {(n,) for n in range(1, 80)
                 if not any((n - 9 * x) % 8 == 0 and n >= 9 * x for x in range(9))}
        self.assertEqual(all_holes(((8, 9),)), sorted(coins))

    def test_all_holes_against_all_small_sides(self):
        for matrix in PLAIN + SOLID:
            if endless_hole(matrix) is None:
                found = all_holes(matrix)
                near = sides_near(matrix, {1: 30, 2: 9, 3: 4}[len(matrix)])
                self.assertEqual([side for side in near if kind_by_hand(matrix, side) == "hole"],
                                 [side for side in found if side in near])
                for side in found:
                    self.assertIs(is_hole(matrix, side), True)


class Changed(unittest.TestCase):
    """[146]"""

    def test_columns_in_another_order(self):
        for matrix in HOLED:
            columns = columns_by_hand(matrix)
            for order in list(permutations(range(len(columns))))[1::3]:
                other = tuple(tuple(row[k] for k in order) for row in matrix)
                self.assertEqual(fundamental_holes(other), fundamental_holes(matrix))
                self.assertEqual(
                    hole_boxes(other),
                    [(hole, sorted(tuple(stop[k] for k in order) for stop in stops))
                     for hole, stops in hole_boxes(matrix)])
                self.assertEqual(endless_hole(other) is None, endless_hole(matrix) is None)
                if endless_hole(other) is None:
                    self.assertEqual(all_holes(other), all_holes(matrix))

    def test_a_column_that_may_be_left_out(self):
        for matrix in PLAIN + SOLID:
            columns = columns_by_hand(matrix)
            if len(columns) > 3 or max(max(abs(a + b) for a, b in zip(row, row[1:] + row[:1]))
                                       for row in matrix) > 9:
                continue
            more = tuple(row + (row[0] + row[-1],) for row in matrix)
            self.assertIs(is_solved(matrix, tuple(row[-1] for row in more)), True)
            for side in sides_near(matrix, {1: 15, 2: 5, 3: 2}[len(matrix)]):
                self.assertEqual(kind_of_side(more, side), kind_of_side(matrix, side))
            self.assertEqual(endless_hole(more) is None, endless_hole(matrix) is None)
            if endless_hole(matrix) is None:
                self.assertEqual(all_holes(more), all_holes(matrix))


class Example(unittest.TestCase):
    """[147]"""

    def test_the_example(self):
        self.assertEqual(fundamental_holes(GAPPED), [(1, 2)])
        self.assertEqual(stops_of_hole(GAPPED, (1, 2)), [(0, 1, 0), (1, 0, 0)])
        self.assertEqual(hole_boxes(GAPPED), [((1, 2), [(0, 1, 0), (1, 0, 0)])])
        self.assertEqual(endless_hole(GAPPED), ((1, 2), 2))
        for side in [(1, 2), (2, 5), (3, 8)]:
            self.assertIs(is_hole(GAPPED, side), True)
        holes = [side for side in product(range(1, 6), range(16)) if is_hole(GAPPED, side)]
        self.assertEqual(holes, [(k, 3 * k - 1) for k in range(1, 6)])


class Wrong(unittest.TestCase):
    """The errors, and their order"""

    def check_errors(self, function, good, wrongs):
        for arguments, error in wrong_calls(good, wrongs):
            with self.subTest(function.__name__, arguments=arguments):
                with self.assertRaises(error):
                    function(*arguments)

    def test_errors(self):
        for function in (hole_boxes, endless_hole):
            self.check_errors(function, (GAPPED,), START)
        self.check_errors(all_holes, (((3, 5),),), START + [(0, GAPPED, NoAnswer)])
        sides = [(1, side, NotSide) for side in NO_SIDES]
        for function in (is_solved, is_hole, kind_of_side, hole_paper):
            self.check_errors(function, (GAPPED, (1, 2)), START + sides)
        self.check_errors(stops_of_hole, (GAPPED, (1, 2)), START + sides + [(1, (2, 5), NoAnswer)])
        self.check_errors(is_hole_paper, (GAPPED, (1, 2), ((1, 2), (0, 0, 0))), START + sides)

    def test_too_many_bases(self):
        for function in (hole_boxes, endless_hole, all_holes):
            with self.assertRaises(TooLarge):
                function(TOO_MANY)

    def test_too_many_pairs(self):
        for top, many in [(6, 2772), (7, 3234)]:
            matrix = (8, 9, 1, 0), (0, 0, top, 1)
            pairs = 0
            for _, stops in hole_boxes(matrix):
                ends = [max(stop[k] for stop in stops if not any(stop[:k] + stop[k + 1:]))
                        for k in range(4)]
                pairs += sum(not any(stands_at(stop, times) for stop in stops)
                             for times in product(*map(range, ends)))
            self.assertEqual(pairs, many)
        found = all_holes(((8, 9, 1, 0), (0, 0, 6, 1)))
        self.assertEqual(found, sorted(set(found)))
        for side in found[::9]:
            self.assertEqual(kind_by_hand(((8, 9, 1, 0), (0, 0, 6, 1)), side), "hole")
        with self.assertRaises(TooLarge):
            all_holes(matrix)

    def test_a_long_list_with_the_hole(self):
        matrix, hole = LONG
        for stop in stops_of_hole(matrix, hole):
            self.assertTrue(solutions_by_hand(matrix, plus(hole, image_by_hand(matrix, stop))))
        matrix, hole = TOO_LONG
        with self.assertRaises(TooLarge):
            stops_of_hole(matrix, hole)
        with self.assertRaises(TooLarge):
            stops_of_hole(((9, 8, 7, 6, 5, 4),), (1,))
        # What is no fundamental hole comes ahead of it.
        with self.assertRaises(NoAnswer):
            stops_of_hole(((9, 8, 7, 6, 5, 4),), (4,))

    def test_fresh_lists(self):
        once = hole_boxes(WIDER)
        once[0][1].clear()
        once.clear()
        self.assertEqual(hole_boxes(WIDER)[0], ((1, 2), [(0, 2, 0), (1, 0, 0)]))
        once = stops_of_hole(GAPPED, (1, 2))
        once.clear()
        self.assertEqual(len(stops_of_hole(GAPPED, (1, 2))), 2)
        once = all_holes(((3, 5),))
        once.clear()
        self.assertEqual(len(all_holes(((3, 5),))), 4)


if __name__ == "__main__":
    unittest.main()
