"""Promises [200] to [204]: texts, and how they are read."""

import unittest
from random import Random

from tallyhull.errors import BadNumber, Malformed, NotCost, NotMatrix, NotMoves, NotPointed
from tallyhull.testsets import graver_moves, least_test_set
from tallyhull.texts import (
    list_text, matrix_text, moves_text, ratio_text, read_matrix, read_moves, read_tuple, tuple_text)
from tests.fibers import LISTED, check_errors, costs_for
from tests.samples import GAPPED, NO_MATRIX, POINTED, RINGED, TWISTED, mixed
from tests.test_moves import COST, MOVES, RINGS, START

SHORT = ((1, 1, 1), (0, 1, 2))
LAST = (0, 0, 1)
TWENTY = "12345678901234567890"
NO_INTEGERS = ["", "-", "--1", "+1", "00", "01", "-0", "-00", "-01", "1.0", "1/2", "1,", "x", "/", ">",
               "0x1", "1e3", "1_0", "\u0661", "1\n", "\t1", "\xa0", TWENTY + "1", "-" + TWENTY + "1", "empty",
               "1" * 21, "9" * 40, "\xb2", "True", "None"]


class Writing(unittest.TestCase):
    """[200] to [202]"""

    def test_fractions(self):
        for number, text in [((0, 1), "0"), ((5, 1), "5"), ((-5, 1), "-5"), ((1, 2), "1/2"),
                             ((-7, 3), "-7/3"), ((10 ** 30, 1), "1" + "0" * 30),
                             ((1, 10 ** 30), "1/1" + "0" * 30), ((2, 3), "2/3"), ((100, 7), "100/7")]:
            self.assertEqual(ratio_text(number), text)
        for number in [(0, 0), (0, 2), (2, 4), (4, 2), (1, 0), (1, -1), (-1, -2), (3, -2), (0, -1), (6, 3),
                       (10 ** 30, 10 ** 30), (-2, 2)]:
            with self.subTest(number=number):
                with self.assertRaises(BadNumber):
                    ratio_text(number)

    def test_tuples(self):
        for numbers, text in [((), ""), ((0,), "0"), ((1, -2, 30), "1 -2 30"), ((-10 ** 25,), "-1" + "0" * 25)]:
            self.assertEqual(tuple_text(numbers), text)
        for tuples, text in [([], "empty"), ([(1,)], "1"), ([(1, 2), (3,)], "1 2 / 3"), ([()], ""),
                             ([(), ()], " / "), ([(), (1,)], " / 1"), ([(0, 0), (0, 0)], "0 0 / 0 0")]:
            self.assertEqual(list_text(tuples), text)

    def test_matrices(self):
        for matrix, text in [(TWISTED, "1 1 1 1 / 0 1 2 3"), (((1,),), "1"), (((0,), (-9,), (9,)), "0 / -9 / 9"),
                             (((1, -2),), "1 -2"), (RINGS, "1 1 -1 -1 / 1 -1 1 -1")]:
            self.assertEqual(matrix_text(matrix), text)
        for matrix in NO_MATRIX:
            with self.assertRaises(NotMatrix):
                matrix_text(matrix)

    def test_moves(self):
        self.assertEqual(moves_text(TWISTED, COST, []), "empty")
        self.assertEqual(moves_text(TWISTED, COST, MOVES[:1]), "0 0 2 0 > 0 1 0 1")
        self.assertEqual(moves_text(TWISTED, COST, MOVES),
                         "0 0 2 0 > 0 1 0 1 / 0 1 1 0 > 1 0 0 1 / 0 2 0 0 > 1 0 1 0")
        self.assertEqual(moves_text(TWISTED, COST, MOVES[::-1]),
                         "0 2 0 0 > 1 0 1 0 / 0 1 1 0 > 1 0 0 1 / 0 0 2 0 > 0 1 0 1")
        self.assertEqual(moves_text(((1, 1),), (0, 0), [((10 ** 20, 0), (0, 10 ** 20))]),
                         "1" + "0" * 20 + " 0 > 0 1" + "0" * 20)


class Reading(unittest.TestCase):
    """[203], and that texts and readings belong together"""

    def check_malformed(self, function, told):
        for text, at in told:
            with self.subTest(function.__name__, text=text):
                with self.assertRaises(Malformed) as caught:
                    function(text)
                self.assertEqual(caught.exception.at, at)

    def test_tuples(self):
        for text, numbers in [("", ()), ("0", (0,)), ("-1", (-1,)), ("5 -10 0", (5, -10, 0)),
                              (TWENTY, (int(TWENTY),)), ("-" + TWENTY, (-int(TWENTY),)),
                              ("9" * 20 + " 1", (10 ** 20 - 1, 1)), (" ".join("7" * 90), (7,) * 90)]:
            self.assertEqual(read_tuple(text), numbers)
        self.check_malformed(read_tuple, [(word, 0) for word in NO_INTEGERS if word])
        self.check_malformed(read_tuple, [("1 " + word, 1) for word in NO_INTEGERS])
        self.check_malformed(read_tuple, [("3 -4 " + word + " 5 x", 2) for word in NO_INTEGERS])
        self.check_malformed(read_tuple, [
            (" ", 0), ("  ", 0), (" 1", 0), ("1 ", 1), ("1  2", 1), ("1 2  ", 2), ("1 / 2", 1), ("1 2 > 3", 2)])

    def test_tuples_there_and_back(self):
        source = Random(203)
        for _ in range(200):
            numbers = tuple(source.choice([0, source.randint(-9, 9), source.randint(-10 ** 20, 10 ** 20) // 10])
                            for _ in range(source.randint(0, 7)))
            self.assertEqual(read_tuple(tuple_text(numbers)), numbers)

    def test_matrices(self):
        for matrix in POINTED + RINGED + mixed(203, 60, -9, 9):
            self.assertEqual(read_matrix(matrix_text(matrix)), matrix)
        self.assertEqual(read_matrix("1 1 1 1 / 0 1 2 3"), TWISTED)

    def test_malformed_matrices(self):
        self.check_malformed(read_matrix, [(word, 0) for word in NO_INTEGERS])
        self.check_malformed(read_matrix, [("1 " + word, 1) for word in NO_INTEGERS if word != "/"])
        self.check_malformed(read_matrix, [("1 / " + word, 2) for word in NO_INTEGERS])
        self.check_malformed(read_matrix, [
            ("", 0), (" ", 0), ("/", 0), ("/ 1", 0), ("1 /", 2), ("1 / ", 2), ("1 2 / 3", 4), ("1 2 /", 3),
            ("1 2 / 3 4 /", 6), ("1 2 / 3 4 / 5", 7), ("1 2 / 3 4 5", 5), ("1 2 / 3 4 5 / 6", 5),
            ("1 / 2 3", 3), ("1 / / 2", 2), ("1 2 / 3 /", 4), ("1 2 / 3 / 4", 4), ("1 2 / 3 4 > 5 6", 5),
            ("1 2 3 4 x", 4), ("1 2 /3 4", 2), ("1 2/ 3 4", 1), ("1  2", 1), ("1 2 ", 2), (" 1 2", 0),
            ("1 2  / 3 4", 2), ("1 2 /  3 4", 3), ("1 2 / 3 4 ", 5), ("1 2 / 3 4  ", 5), ("empty 1", 0),
            ("1 2 3 / 4 5 6 / 7 8 9 / 1 2", 14), ("1 " * 8 + "x", 8)])

    def test_what_is_read_and_is_no_matrix(self):
        for text in ["10", "-10", "1 2 / 3 10", TWENTY, "1 1 1 1 1 1 1", "1 / 2 / 3 / 4",
                     "1 2 / 1 2 / 1 2 / 1 2 / 1 2"]:
            with self.subTest(text=text):
                with self.assertRaises(NotMatrix):
                    read_matrix(text)

    def test_moves(self):
        for matrix in LISTED:
            for cost in costs_for(matrix)[:3]:
                for moves in (least_test_set(matrix, cost), graver_moves(matrix, cost)[::-1], []):
                    found = read_moves(matrix, cost, moves_text(matrix, cost, moves))
                    self.assertIsInstance(found, list)
                    self.assertEqual(found, moves)

    def test_malformed_moves(self):
        def read(text):
            return read_moves(SHORT, LAST, text)
        good = "1 0 1 > 0 2 0"
        self.assertEqual(read(good), [((1, 0, 1), (0, 2, 0))])
        self.assertEqual(read(good + " / 2 0 2 > 0 4 0"), [((1, 0, 1), (0, 2, 0)), ((2, 0, 2), (0, 4, 0))])
        words = good.split()
        for k, due in enumerate(words):
            for word in NO_INTEGERS + ["5"]:
                if (word == "5") == (due == ">") and word != due:
                    self.check_malformed(read, [(" ".join(words[:k] + [word] + words[k + 1:]), k)])
        self.check_malformed(read, [(" ".join(words[:k]), k) for k in range(7)])
        self.check_malformed(read, [
            ("", 0), (" ", 0), (good + " ", 7), (" " + good, 0), (good + " /", 8), (good + " / ", 8),
            (good + " 1", 7), (good + " >", 7), (good + " " + good, 7), (good + " / 2 0 2", 11),
            (good + " / 2 0 2 >", 12), (good + " / 2 0 2 > 0 4", 14), (good + " / 2 0 2 > 0 4 0 0", 15),
            (good + " / / 1", 8), (good + " / empty", 8), ("empty empty", 0), ("empty ", 0), ("1 0 1 0 2 0", 3),
            ("1 0 > 0 2", 2), ("1 0 1 0 > 0 2 0 0", 3), ("1  0 1 > 0 2 0", 1), ("1 0 1  > 0 2 0", 3)])

    def test_what_is_read_and_is_no_list_of_moves(self):
        good = "1 0 1 > 0 2 0"
        for text in ["0 2 0 > 1 0 1", "1 0 1 > 1 0 1", "1 0 1 > 0 2 1", "2 0 1 > 1 2 0", "-1 2 -1 > 0 0 0",
                     good + " / " + good, good + " / 0 2 0 > 1 0 1", "0 0 0 > 0 0 0", "1 0 " + TWENTY + " > 0 2 0",
                     "2 0 2 > 0 4 1"]:
            with self.subTest(text=text):
                with self.assertRaises(NotMoves):
                    read_moves(SHORT, LAST, text)


class Example(unittest.TestCase):
    """[204]"""

    def test_the_example(self):
        self.assertEqual(matrix_text(((1, 1, 1, 1), (0, 1, 2, 3))), "1 1 1 1 / 0 1 2 3")
        self.assertEqual(moves_text(SHORT, LAST, least_test_set(SHORT, LAST)), "1 0 1 > 0 2 0")


class Wrong(unittest.TestCase):
    """The errors, and their order"""

    def test_errors(self):
        lists = [(2, MOVES + MOVES[:1], NotMoves), (2, [((1, 0, 0, 0), (0, 1, 0, 0))], NotMoves),
                 (2, [MOVES[0][::-1]], NotMoves), (2, [((1, 0), (0, 1))], NotMoves)]
        check_errors(self, moves_text, (TWISTED, COST, MOVES), START + lists)
        text = "0 0 2 0 > 0 1 0 1"
        wrong = [(2, text + " x", Malformed), (2, text + " / " + text, NotMoves), (2, "", Malformed),
                 (2, "0 1 0 1 > 0 0 2 0 / x", Malformed)]
        check_errors(self, read_moves, (TWISTED, COST, text), START + wrong)
        for matrix, cost, error in [(((10,),), (0,), NotMatrix), (RINGS, COST, NotPointed),
                                    (GAPPED, (0, 0), NotCost)]:
            with self.assertRaises(error):
                read_moves(matrix, cost, "empty")

    def test_fresh_lists(self):
        text = "0 0 2 0 > 0 1 0 1"
        once = read_moves(TWISTED, COST, text)
        once.clear()
        self.assertEqual(len(read_moves(TWISTED, COST, text)), 1)
        empty = read_moves(TWISTED, COST, "empty")
        empty.append(1)
        self.assertEqual(read_moves(TWISTED, COST, "empty"), [])
        given = list(MOVES)
        moves_text(TWISTED, COST, given)
        self.assertEqual(given, MOVES)


if __name__ == "__main__":
    unittest.main()
