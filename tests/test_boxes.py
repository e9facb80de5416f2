"""Promises [101], [103] to [106]: boxes, standard ones, and lists of them."""

import unittest
from functools import lru_cache
from itertools import combinations, product
from math import prod
from random import Random

from tallyhull.boxes import (
    boxes, first_by_boxes, in_box, is_box, is_box_list, is_standard, vector_in)
from tallyhull.errors import (
    BadNumber, NoAnswer, NotCost, NotMatrix, NotPointed, NotSide, NotVector, TooLarge)
from tallyhull.staircases import cell_weight, cells, corners, free_sets
from tests.fibers import (
    ALONE, LISTED, WIDE, costs_for, first_by_looking, key_of, minus, plus, solutions_by_hand,
    stands_at, wrong_calls)
from tests.samples import (
    FLAT, GAPPED, SLOPED, TWISTED, columns_by_hand, dot, image_by_hand, rank_by_fractions,
    sides_near, solved_by_fractions)
from tests.test_moves import COST, START
from tests.test_staircases import RINGS, all_small, corners_by_hand, firsts_by_hand
from tests.test_testsets import CUBIC, PLAIN

BOXES = [((0, 0, 0, 0), (0, 3)), ((0, 0, 1, 0), (0, 3)), ((0, 1, 0, 0), (0, 3))]
NO_BOXES = [((0, 0, 0), (0, 3)), ((0, 0, 0, 0, 0), (0, 3)), ((), ()), ((), (0,)), ((0, 0, 0, -1), ()),
            ((0, -1, 0, 0), (0,)), ((1, 0, 0, 0), (0, 3)), ((0, 0, 0, 2), (0, 3)),
            ((0, 0, 0, 0), (3, 0)), ((0, 0, 0, 0), (0, 0)), ((0, 0, 0, 0), (0, 4)),
            ((0, 0, 0, 0), (-1,)), ((0, 0, 0, 0), (-1, 0)), ((0, 0, 0, 0), (0, 1, 2, 3, 4)),
            ((0, 0, 0, 0), (10 ** 30,))]


def within(box, vector):
    """[101]: whether a box contains a vector of integers from 0 on."""
    u, free = box
    return all(k in free or vector[k] == u[k] for k in range(len(u)))


def all_boxes(matrix, most):
    """All boxes with entries of at most so much."""
    many = len(matrix[0])
    for size in range(many + 1):
        for free in combinations(range(many), size):
            for u in product(*[range(1 if k in free else most + 1) for k in range(many)]):
                yield u, free


def contains(one, other):
    """Whether the first box contains all vectors of the other one."""
    return set(other[1]) <= set(one[1]) and within(one, other[0])


@lru_cache(maxsize=None)
def firsts_alone(matrix, cost):
    """The boxes with small entries whose vectors, so far as their entries are small, are first."""
    first = firsts_by_hand(matrix, cost)
    most = max(max(vector) for vector in first)
    small = min(most, 1 + max([max(corner) for corner in corners_by_hand(matrix, cost)], default=0))
    return [box for box in all_boxes(matrix, small - 1) if all(
        first[plus(box[0], added)] for added in product(
            *[range(small + 1) if k in box[1] else (0,) for k in range(len(box[0]))]))]


@lru_cache(maxsize=None)
def boxes_by_hand(matrix, cost):
    """[101], as it stands there."""
    every = firsts_alone(matrix, cost)
    found = [box for box in every if not any(
        contains(other, box) for other in every if len(other[1]) > len(box[1]))]
    return sorted(found, key=lambda box: (box[1], box[0]))


def tried(matrix, cost):
    """The sum that `boxes` limits."""
    found = corners(matrix, cost)
    many = len(matrix[0])
    most = [max([0] + [corner[k] for corner in found]) for k in range(many)]
    return sum(prod(most[k] for k in range(many) if k not in free)
               for free in free_sets(matrix, cost))


class Boxes(unittest.TestCase):
    """[101] and [103]"""

    def test_against_the_words(self):
        for matrix in PLAIN:
            if len(matrix[0]) < 4:
                for cost in costs_for(matrix):
                    found = boxes(matrix, cost)
                    self.assertIsInstance(found, list)
                    self.assertEqual(found, boxes_by_hand(matrix, cost), (matrix, cost))

    def test_they_are_standard_and_others_are_not(self):
        for matrix in LISTED[::3] + [TWISTED]:
            for cost in costs_for(matrix)[:4]:
                found = boxes(matrix, cost)
                many = len(matrix[0])
                for u, free in found:
                    self.assertIs(is_standard(matrix, cost, (u, free)), True)
                    for k in range(many):
                        fewer = tuple(j for j in free if j != k)
                        more = tuple(sorted(set(free) | {k}))
                        grown = tuple(0 if j == k else entry for j, entry in enumerate(u))
                        self.assertIs(is_standard(matrix, cost, (grown, more)), k in free)
                        self.assertIs(is_standard(matrix, cost, (u, fewer)), k not in free)

    def test_each_first_vector_is_in_one(self):
        for matrix in PLAIN:
            for cost in costs_for(matrix):
                found = boxes(matrix, cost)
                for vector, told in firsts_by_hand(matrix, cost).items():
                    self.assertIs(any(within(box, vector) for box in found), told)

    def test_as_many_with_a_cell_as_its_weight(self):
        for matrix in LISTED:
            for cost in costs_for(matrix)[:3]:
                found = boxes(matrix, cost)
                for cell in cells(matrix, cost):
                    self.assertEqual(sum(free == cell for _, free in found),
                                     cell_weight(matrix, cell))

    def test_is_standard_against_the_words(self):
        for matrix in [GAPPED, FLAT, SLOPED, ((2, 3),), ((1, 2, 3),), ((1,),)]:
            for cost in costs_for(matrix):
                wanted = boxes_by_hand(matrix, cost)
                for box in all_boxes(matrix, 3):
                    self.assertIs(is_standard(matrix, cost, box), box in wanted)

    def test_by_hand(self):
        self.assertEqual(boxes(((2, 3),), (0, 1)), [((0, 0), (0,)), ((0, 1), (0,))])
        self.assertEqual(boxes(((2, 3),), (0, 0)), [((k, 0), (1,)) for k in range(3)])
        self.assertEqual(boxes(((1, 1, 1),), (0, 0, 0)), [((0, 0, 0), (2,))])
        # With this cost a free set is in no cell: its one box is not in one of the others.
        self.assertEqual(boxes(TWISTED, CUBIC), [
            ((0, 0, 0, 0), (0, 1)), ((0, 0, 0, 0), (1, 3)), ((1, 0, 0, 0), (1, 3)),
            ((0, 0, 1, 0), (3,))])
        for matrix in ALONE:
            many = len(matrix[0])
            self.assertEqual(boxes(matrix, (3,) * many), [((0,) * many, tuple(range(many)))])

    def test_the_example(self):
        self.assertEqual(corners(TWISTED, COST), [(0, 0, 2, 0), (0, 1, 1, 0), (0, 2, 0, 0)])
        self.assertEqual(boxes(TWISTED, COST), BOXES)
        self.assertEqual(cells(TWISTED, COST), [(0, 3)])
        self.assertEqual(cell_weight(TWISTED, (0, 3)), 3)
        self.assertEqual([vector_in(TWISTED, box, (3, 4)) for box in BOXES],
                         [None, None, (1, 1, 0, 1)])
        self.assertEqual(first_by_boxes(TWISTED, COST, (3, 4)), (1, 1, 0, 1))

    def test_what_is_no_standard_box(self):
        for box in [((0, 0, 0, 0), (0,)), ((0, 0, 0, 0), (3,)), ((0, 0, 0, 0), ()),     # parts
                    ((2, 0, 0, 0), (3,)), ((0, 1, 0, 5), (0,)), ((4, 0, 1, 4), ()),
                    ((0, 0, 2, 0), (0, 3)), ((0, 1, 1, 0), (0, 3)), ((0, 9, 0, 0), (0, 3)),
                    ((0, 0, 0, 0), (0, 1)), ((0, 0, 0, 0), (0, 1, 3)), ((0, 0, 0, 0), (0, 1, 2, 3)),
                    ((0, 1, 10 ** 30, 0), (0, 3))]:
            with self.subTest(box=box):
                self.assertIs(is_box(TWISTED, box), True)
                self.assertIs(is_standard(TWISTED, COST, box), False)


class One(unittest.TestCase):
    """[101] and [104]: boxes, and the vectors in them"""

    def test_what_is_a_box(self):
        for box in BOXES + [((5, 0, 10 ** 30, 0), (1, 3)), ((0,) * 4, (0, 1, 2, 3)), ((1,) * 4, ())]:
            self.assertIs(is_box(TWISTED, box), True)
        for box in NO_BOXES:
            with self.subTest(box=box):
                self.assertIs(is_box(TWISTED, box), False)

    def test_what_is_in_a_box(self):
        box = (0, 2, 0, 0), (0, 3)
        for vector, told in [((0, 2, 0, 0), True), ((7, 2, 0, 10 ** 30), True), ((0, 2, 0, 3), True),
                             ((0, 2, 1, 0), False), ((0, 1, 0, 0), False), ((0, 3, 0, 0), False),
                             ((0, 0, 0, 0), False), ((-1, 2, 0, 0), False), ((0, 2, 0, -1), False),
                             ((0, 2, -1, 0), False), ((3, -2, 0, 0), False)]:
            with self.subTest(vector=vector):
                self.assertIs(in_box(TWISTED, box, vector), told)
        self.assertIs(in_box(TWISTED, ((1, 2, 3, 4), ()), (1, 2, 3, 4)), True)
        self.assertIs(in_box(TWISTED, ((1, 2, 3, 4), ()), (1, 2, 3, 5)), False)
        self.assertIs(in_box(TWISTED, ((0,) * 4, (0, 1, 2, 3)), (9, 0, 1, 2)), True)
        self.assertIs(in_box(TWISTED, ((0,) * 4, (0, 1, 2, 3)), (9, 0, -1, 2)), False)

    def test_the_vector_in_a_box(self):
        source = Random(104)
        for matrix in LISTED:
            columns = columns_by_hand(matrix)
            many = len(columns)
            for _ in range(6):
                free = tuple(sorted(source.sample(range(many), source.randint(0, many))))
                u = tuple(0 if k in free else source.randint(0, 3) for k in range(many))
                added = tuple(source.randint(0, 9) if k in free else 0 for k in range(many))
                side = image_by_hand(matrix, plus(u, added))
                if rank_by_fractions([columns[k] for k in free]) < len(free):
                    with self.assertRaises(NoAnswer):
                        vector_in(matrix, (u, free), side)
                    continue
                self.assertEqual(vector_in(matrix, (u, free), side), plus(u, added))
                for change in sides_near(matrix, 1):
                    left = minus(plus(side, change), image_by_hand(matrix, u))
                    shares = solved_by_fractions([columns[k] for k in free], left)
                    whole = shares is not None and all(
                        share >= 0 and share.denominator == 1 for share in shares)
                    told = dict(zip(free, shares)) if whole else {}
                    self.assertEqual(
                        vector_in(matrix, (u, free), plus(side, change)),
                        tuple(told.get(k, u[k]) for k in range(many)) if whole else None)

    def test_the_vector_by_hand(self):
        for matrix, box, side, wanted in [
                (SLOPED, ((0, 0), (0, 1)), (6, 6), (1, 1)), (SLOPED, ((0, 0), (0, 1)), (6, 9), None),
                (SLOPED, ((0, 0), (0, 1)), (2, 4), None), (SLOPED, ((0, 0), (0, 1)), (1, 2), None),
                (SLOPED, ((1, 0), (1,)), (6, 6), (1, 1)), (SLOPED, ((1, 0), (1,)), (6, 7), None),
                (SLOPED, ((1, 1), ()), (6, 6), (1, 1)), (SLOPED, ((1, 1), ()), (6, 7), None),
                (FLAT, ((0, 0), (1,)), (4, 8), (0, 2)), (FLAT, ((0, 0), (1,)), (4, 7), None),
                (FLAT, ((1, 0), (1,)), (5, 10), (1, 2)), (FLAT, ((1, 0), (1,)), (4, 8), None),
                (((1,),), ((0,), (0,)), (1000000,), (1000000,)),
                (((1,),), ((10 ** 30,), ()), (5,), None), (((-3,),), ((0,), (0,)), (-9,), (3,)),
                (((-3,),), ((0,), (0,)), (9,), None), (((2, 3),), ((0, 0), ()), (0,), (0, 0))]:
            with self.subTest(matrix=matrix, box=box, side=side):
                self.assertEqual(vector_in(matrix, box, side), wanted)


class FirstSolutions(unittest.TestCase):
    """[104]: the boxes tell the first solutions of all sides"""

    def test_small_sides(self):
        for matrix in PLAIN:
            for cost in costs_for(matrix):
                for side in sides_near(matrix, {1: 30, 2: 7, 3: 3}[len(matrix)])[::3]:
                    every = solutions_by_hand(matrix, side)
                    wanted = min(every, key=lambda x: key_of(cost, x)) if every else None
                    self.assertEqual(first_by_boxes(matrix, cost, side), wanted)

    def test_the_vectors_of_all_boxes_agree(self):
        for matrix in LISTED[::4]:
            for cost in costs_for(matrix)[:3]:
                found = boxes(matrix, cost)
                for vector in list(all_small(matrix))[::97] if len(matrix[0]) < 5 else []:
                    side = image_by_hand(matrix, vector)
                    inside = {vector_in(matrix, box, side) for box in found} - {None}
                    self.assertEqual(inside, {first_by_looking(matrix, cost, vector)})

    def test_great_sides(self):
        self.assertEqual(first_by_boxes(((2, 3),), (1, 1), (1000000,)), (2, 333332))
        self.assertEqual(first_by_boxes(((2, 3),), (0, 1), (999999,)), (499998, 1))
        self.assertEqual(first_by_boxes(TWISTED, COST, (1000000, 1000000)), (666666, 1, 0, 333333))
        self.assertEqual(first_by_boxes(TWISTED, CUBIC, (1000000, 1000000)), (0, 1000000, 0, 0))
        self.assertIsNone(first_by_boxes(TWISTED, COST, (300000, 900001)))
        self.assertEqual(first_by_boxes(TWISTED, COST, (300000, 900000)), (0, 0, 0, 300000))
        self.assertIsNone(first_by_boxes(SLOPED, (0, 0), (999999, 999999)))
        self.assertEqual(first_by_boxes(SLOPED, (5, -5), (999996, 999996)), (166666, 166666))
        for matrix in LISTED[::5]:
            many = len(matrix[0])
            for cost in costs_for(matrix)[:3]:
                vector = tuple((k * k * 7919 + 13) % 40000 for k in range(many))
                side = image_by_hand(matrix, vector)
                found = first_by_boxes(matrix, cost, side)
                self.assertEqual(image_by_hand(matrix, found), side)
                self.assertFalse(any(stands_at(corner, found) for corner in corners(matrix, cost)))
                self.assertLessEqual(dot(cost, found), dot(cost, vector))


class Lists(unittest.TestCase):
    """[105]"""

    def covers(self, matrix, cost, found, first):
        return all(any(within(box, vector) for box in found) for vector, told in first.items() if told)

    def test_changed_lists(self):
        source = Random(105)
        for matrix in PLAIN:
            for cost in costs_for(matrix):
                every = boxes(matrix, cost)
                self.assertIs(is_box_list(matrix, cost, every), True)
                self.assertIs(is_box_list(matrix, cost, every[::-1]), True)
                self.assertIs(is_box_list(matrix, cost, every + every[:1]), True)
                self.assertIs(is_box_list(matrix, cost, []), False)
                k = source.randrange(len(every))
                fewer = every[:k] + every[k + 1:]
                self.assertIs(is_box_list(matrix, cost, fewer), False)
                u, free = every[k]
                lone = tuple(3 if j in free else entry for j, entry in enumerate(u))
                self.assertIs(is_box_list(matrix, cost, every + [(lone, ())]), True)
                for j in range(len(u)):
                    if j not in free:
                        grown = u[:j] + (0,) + u[j + 1:], tuple(sorted(free + (j,)))
                        self.assertIs(is_box_list(matrix, cost, fewer + [grown]), False)
                        self.assertIs(is_box_list(matrix, cost, every + [grown]), False)

    def test_split_boxes(self):
        for matrix in PLAIN:
            for cost in costs_for(matrix):
                every = boxes(matrix, cost)
                at = next((k for k, box in enumerate(every) if box[1]), None)
                if at is None:
                    continue
                u, free = every[at]
                rest = every[:at] + every[at + 1:]
                low = [(u[:free[0]] + (few,) + u[free[0] + 1:], free[1:]) for few in range(3)]
                # With 3 and more there, and enough at the other free ones, it is in no other box.
                self.assertIs(is_box_list(matrix, cost, rest + low), False)
                self.assertIs(is_box_list(matrix, cost, low + every), True)

    def test_against_all_small_vectors(self):
        source = Random(106)
        told = {True: 0, False: 0}
        for matrix in PLAIN:
            if len(matrix[0]) == 4:
                continue
            for cost in costs_for(matrix):
                first = firsts_by_hand(matrix, cost)
                good = firsts_alone(matrix, cost)
                for _ in range(4):
                    found = boxes(matrix, cost)
                    found = source.sample(found, max(1, len(found) - source.randint(0, 1)))
                    found += source.sample(good, min(len(good), source.randint(0, 3)))
                    if max(max(u) for u, _ in found) > 3:
                        continue
                    wanted = self.covers(matrix, cost, found, first)
                    self.assertIs(is_box_list(matrix, cost, found), wanted)
                    told[wanted] += 1
        self.assertGreater(min(told.values()), 20)

    def test_boxes_behind_all_corners(self):
        # The first vectors are (0, k): a box may leave out one that is greater than all entries.
        line, cost = ((1, 1),), (0, 0)
        self.assertEqual(boxes(line, cost), [((0, 0), (1,))])
        single = [((0, k), ()) for k in range(8)]
        self.assertIs(is_box_list(line, cost, single), False)
        self.assertIs(is_box_list(line, cost, single + [((0, 0), (1,))]), True)
        self.assertIs(is_box_list(line, cost, single + [((1, 0), (1,))]), False)
        self.assertIs(is_box_list(((1,),), (0,), [((k,), ()) for k in range(9)]), False)
        self.assertIs(is_box_list(((1,),), (0,), [((0,), (0,))]), True)

    def test_the_example(self):
        self.assertIs(is_box_list(TWISTED, COST, BOXES), True)
        for k in range(3):
            self.assertIs(is_box_list(TWISTED, COST, BOXES[:k] + BOXES[k + 1:]), False)
        self.assertIs(is_box_list(TWISTED, COST, BOXES + [((0, 1, 1, 0), (0,))]), False)
        self.assertIs(is_box_list(TWISTED, COST, BOXES + [((5, 1, 0, 0), (3,))]), True)


class Limits(unittest.TestCase):

    def test_the_sum_of_boxes(self):
        matrix, cost = ((3, 9, 1, 6, 0), (4, 1, 3, 0, 6), (1, 6, 8, 5, 8)), (1, -2, 3, -4, 5)
        self.assertEqual(tried(matrix, cost), 299664)
        self.assertEqual(len(boxes(matrix, cost)), 1020)
        self.assertEqual(first_by_boxes(matrix, cost, (3, 4, 1)), (1, 0, 0, 0, 0))
        matrix, cost = ((2, 6, 0, 5, 0), (9, 4, 8, 6, 8), (7, 8, 6, 7, 9)), (0, 0, 0, 0, 0)
        self.assertEqual(tried(matrix, cost), 302880)
        for function, more in [(boxes, ()), (first_by_boxes, ((2, 9, 7),))]:
            with self.assertRaises(TooLarge):
                function(matrix, cost, *more)
        # Single boxes are not sought.
        self.assertIs(is_standard(matrix, cost, ((0,) * 5, (0, 1, 2, 3, 4))), False)
        self.assertIs(is_standard(matrix, cost, ((0,) * 5, cells(matrix, cost)[0])), True)
        with self.assertRaises(BadNumber):
            is_standard(matrix, cost, ((0,) * 5, (0, 1, 2, 3, 5)))

    def test_how_many_vectors_are_looked_at(self):
        one, cost = ((1,),), (0,)
        every = [((0,), (0,))]
        self.assertIs(is_box_list(one, cost, every + [((99998,), ())]), True)
        self.assertIs(is_box_list(one, cost, [((99998,), ())]), False)
        for most in (99999, 10 ** 30):
            for found in (every + [((most,), ())], [((most,), ())]):
                with self.assertRaises(TooLarge):
                    is_box_list(one, cost, found)
        # What is no box comes ahead of it.
        with self.assertRaises(BadNumber):
            is_box_list(one, cost, [((99999,), ()), ((1,), (0,))])

    def test_just_below_and_just_above_the_limit(self):
        # Two corners, (1, 0, 0) and (0, 1, 0): with u = (0, 0, n) there are 2, 2 and n + 2 entries.
        matrix, cost = ((1, 1, 1),), (0, 0, 0)
        every = boxes(matrix, cost)
        self.assertEqual(every, [((0, 0, 0), (2,))])
        for u, told in [((0, 0, 24998), True), ((0, 0, 24999), None), ((0, 98, 498), False),
                        ((0, 98, 499), None), ((0, 99, 493), False), ((0, 99, 494), None),
                        ((1, 1, 11109), False), ((1, 1, 11110), None)]:
            with self.subTest(u=u):
                looked = prod(entry + 2 for entry in u)
                self.assertEqual(looked > 100000, told is None)
                if told is None:
                    with self.assertRaises(TooLarge):
                        is_box_list(matrix, cost, every + [(u, ())])
                else:
                    self.assertIs(is_box_list(matrix, cost, every + [(u, ())]), told)


class Wrong(unittest.TestCase):
    """The errors, and their order"""

    def check_errors(self, function, good, wrongs):
        for arguments, error in wrong_calls(good, wrongs):
            with self.subTest(function.__name__, arguments=arguments):
                with self.assertRaises(error):
                    function(*arguments)

    def test_with_a_cost(self):
        self.check_errors(boxes, (TWISTED, COST), START)
        sides = [(2, side, NotSide) for side in [(), (3,), (3, 4, 5), (1000001, 0)]]
        self.check_errors(first_by_boxes, (TWISTED, COST, (3, 4)), START + sides)
        wrong = [(2, box, BadNumber) for box in NO_BOXES]
        self.check_errors(is_standard, (TWISTED, COST, BOXES[0]), START + wrong)
        lists = [(2, BOXES + [box], BadNumber) for box in NO_BOXES]
        self.check_errors(is_box_list, (TWISTED, COST, BOXES), START + lists)

    def test_without_a_cost(self):
        start = [(0, ((1, 1, 1, 10), (0, 1, 2, 3)), NotMatrix), (0, RINGS, NotPointed)]
        self.check_errors(is_box, (TWISTED, BOXES[0]), start)
        wrong = [(1, box, BadNumber) for box in NO_BOXES]
        vectors = [(2, vector, NotVector) for vector in [(), (1, 2, 3), (1, 2, 3, 4, 5)]]
        self.check_errors(in_box, (TWISTED, BOXES[0], (1, 0, 0, 1)), start + vectors + wrong)
        sides = [(2, side, NotSide) for side in [(), (3,), (3, 4, 5), (0, -1000001)]]
        dependent = [(1, ((0, 0, 0, 0), (0, 1, 2)), NoAnswer)]
        self.check_errors(vector_in, (TWISTED, BOXES[0], (3, 4)), start + sides + wrong + dependent)

    def test_too_large_for_the_test_set(self):
        zeros = (0,) * 6
        start = [(0, ((9, 8, 7, 6, 5, 10),), NotMatrix), (0, ((9, 8, 7, 6, 5, -4),), NotPointed),
                 (1, (0,) * 5, NotCost)]
        self.check_errors(boxes, (WIDE, zeros), start)
        with self.assertRaises(TooLarge):
            boxes(WIDE, zeros)
        self.check_errors(first_by_boxes, (WIDE, zeros, (1,)), start + [(2, (1, 1), NotSide)])
        with self.assertRaises(TooLarge):
            first_by_boxes(WIDE, zeros, (0,))
        # What is no box comes behind it.
        for box in [(zeros, (0,)), (zeros, (1, 0)), (zeros[1:], ())]:
            with self.assertRaises(TooLarge):
                is_standard(WIDE, zeros, box)
            with self.assertRaises(TooLarge):
                is_box_list(WIDE, zeros, [box])
        # Without a cost no test set is wanted.
        self.assertIs(is_box(WIDE, (zeros, (0,))), True)
        self.assertIs(in_box(WIDE, (zeros, (0,)), (4, 0, 0, 0, 0, 0)), True)
        self.assertEqual(vector_in(WIDE, (zeros, (0,)), (18,)), (2, 0, 0, 0, 0, 0))

    def test_fresh_lists(self):
        once = boxes(TWISTED, CUBIC)
        kept = list(once)
        once.clear()
        self.assertTrue(kept)
        self.assertEqual(boxes(TWISTED, CUBIC), kept)
        given = list(BOXES)
        is_box_list(TWISTED, COST, given)
        self.assertEqual(given, BOXES)


if __name__ == "__main__":
    unittest.main()
