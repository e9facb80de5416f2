"""Promises [150] to [154]: coins, payable amounts and gaps."""

import unittest
from functools import lru_cache
from math import gcd
from random import Random

from tallyhull.coins import (
    gap_count, gaps, greatest_gap, is_even_handed, is_payable, last_gaps, least_row)
from tallyhull.errors import BadNumber
from tallyhull.holeboxes import all_holes, kind_of_side
from tallyhull.holes import fundamental_holes

SOME = [(3, 5), (4, 6), (1,), (2,), (200,), (7, 7), (1, 5, 10), (6, 9, 20), (2, 4, 6), (10, 15, 6),
        (5, 8, 9), (5, 3), (12, 18, 27), (6, 10, 15), (4, 5, 6, 7), (9, 9, 4), (13, 21, 34, 55),
        (199, 200), (8, 12, 20, 28, 36, 44), (30, 42, 70, 105), (3, 3, 3), (17, 19, 23, 29, 31, 37)]
NO_COINS = [(), (0,), (-1,), (201,), (3, 0), (3, 201), (3, -5), (1, 2, 3, 4, 5, 6, 7), (10 ** 30,)]


@lru_cache(maxsize=None)
def payable_by_hand(coins, most):
    """Which amounts from 0 up to the greatest one are payable."""
    told = [True] + [False] * most
    for amount in range(1, most + 1):
        told[amount] = any(amount >= coin and told[amount - coin] for coin in coins)
    return told


def mixed_coins():
    source = Random(150)
    return SOME + [tuple(source.randint(1, source.choice([9, 30, 60])) for _ in range(source.randint(1, 6)))
                   for _ in range(70)]


def far(coins):
    """An amount behind the greatest gap: no least payable amount of a rest has more coins than m."""
    return max(coins) * (min(coins) + 1)


def gaps_by_hand(coins):
    told = payable_by_hand(coins, far(coins))
    common = gcd(*coins)
    return [amount for amount in range(common, far(coins), common) if not told[amount]]


class Rows(unittest.TestCase):
    """[150] and [151]"""

    def test_the_least_row(self):
        for coins in mixed_coins():
            told = payable_by_hand(coins, far(coins))
            common, least = gcd(*coins), min(coins)
            wanted = [next(amount for amount, paid in enumerate(told) if paid and amount % least == rest)
                      for rest in range(0, least, common)]
            found = least_row(coins)
            self.assertIsInstance(found, list)
            self.assertEqual(found, wanted, coins)

    def test_payable_amounts(self):
        for coins in mixed_coins():
            told = payable_by_hand(coins, far(coins))
            for amount in range(0, min(far(coins), 150)):
                self.assertIs(is_payable(coins, amount), told[amount])
            for amount in (-1, -min(coins), -gcd(*coins), -10 ** 30):
                self.assertIs(is_payable(coins, amount), False)
            common = gcd(*coins)
            for amount in (10 ** 30, 10 ** 30 + 1, 10 ** 40 - 1):
                self.assertIs(is_payable(coins, amount), amount % common == 0)
            self.assertIs(is_payable(coins, 0), True)

    def test_the_gaps(self):
        for coins in mixed_coins():
            wanted = gaps_by_hand(coins)
            found = gaps(coins)
            self.assertIsInstance(found, list)
            self.assertEqual(found, wanted, coins)
            self.assertEqual(gap_count(coins), len(wanted))
            self.assertEqual(greatest_gap(coins), max(wanted, default=None))

    def test_by_hand(self):
        for coins, row, many, greatest in [
                ((1,), [0], 0, None), ((7,), [0], 0, None), ((7, 7), [0], 0, None),
                ((6, 4), [0, 6], 1, 2), ((2, 4, 6), [0], 0, None), ((1, 200), [0], 0, None),
                ((6, 9, 20), [0, 49, 20, 9, 40, 29], 22, 43), ((200, 199), None, 19701, 39401),
                ((12, 18, 27), [0, 27, 18, 45], 6, 33)]:
            with self.subTest(coins=coins):
                if row:
                    self.assertEqual(least_row(coins), row)
                self.assertEqual(gap_count(coins), many)
                self.assertEqual(greatest_gap(coins), greatest)
                self.assertEqual(len(gaps(coins)), many)

    def test_the_order_of_coins_and_coins_twice(self):
        for coins in mixed_coins():
            for function in (least_row, gaps, gap_count, greatest_gap, last_gaps, is_even_handed):
                self.assertEqual(function(coins[::-1]), function(coins))
                if len(coins) < 6:
                    self.assertEqual(function(coins + coins[:1]), function(coins))


class Last(unittest.TestCase):
    """[152]"""

    def test_last_gaps(self):
        several = 0
        for coins in mixed_coins():
            every = gaps_by_hand(coins)
            told = set(every)
            wanted = [gap for gap in every if not any(gap + coin in told for coin in coins)]
            found = last_gaps(coins)
            self.assertIsInstance(found, list)
            self.assertEqual(found, wanted, coins)
            self.assertLessEqual(len(found), min(coins) // gcd(*coins) - 1)
            if every:
                self.assertIn(every[-1], found)
            several += len(found) > 1
        self.assertGreater(several, 5)

    def test_even_handed(self):
        told = {True: 0, False: 0}
        for coins in mixed_coins():
            greatest = max(gaps_by_hand(coins), default=None)
            common = gcd(*coins)
            told_by = payable_by_hand(coins, far(coins))
            wanted = greatest is not None and all(
                told_by[amount] != told_by[greatest - amount]
                for amount in range(0, greatest + 1, common))
            self.assertIs(is_even_handed(coins), wanted)
            told[wanted] += 1
        self.assertGreater(min(told.values()), 5)

    def test_by_hand(self):
        for coins, last, even in [
                ((3, 5), [7], True), ((4, 6), [2], True), ((1,), [], False), ((9,), [], False),
                ((5, 8, 9), [11, 12], False), ((3, 4, 5), [1, 2], False), ((6, 9, 20), [43], True),
                ((4, 5, 6), [7], True), ((6, 10, 15), [29], True), ((2, 200, 199), [197], True)]:
            with self.subTest(coins=coins):
                self.assertEqual(last_gaps(coins), last)
                self.assertIs(is_even_handed(coins), even)


class Holes(unittest.TestCase):
    """[153]"""

    def test_coins_are_a_matrix_of_one_row(self):
        for coins in [(3, 5), (4, 6), (2, 3), (9, 5, 7), (6, 8, 9), (6, 9), (8, 9), (1, 5), (7,)]:
            least, common = min(coins), gcd(*coins)
            self.assertEqual(fundamental_holes((coins,)),
                             [(rest,) for rest in range(common, least, common)])
            self.assertEqual(all_holes((coins,)), [(gap,) for gap in gaps(coins)])
            for amount in range(-3, 60):
                self.assertEqual(kind_of_side((coins,), (amount,)) == "solved",
                                 is_payable(coins, amount))


class Example(unittest.TestCase):
    """[154]"""

    def test_the_example(self):
        self.assertEqual(least_row((3, 5)), [0, 10, 5])
        self.assertEqual(gaps((3, 5)), [1, 2, 4, 7])
        self.assertEqual(greatest_gap((3, 5)), 7)
        self.assertEqual(last_gaps((3, 5)), [7])
        self.assertEqual(gaps((4, 6)), [2])


class Wrong(unittest.TestCase):

    def test_what_are_no_coins(self):
        for coins in NO_COINS:
            for function in (least_row, gaps, gap_count, greatest_gap, last_gaps, is_even_handed):
                with self.subTest(function.__name__, coins=coins):
                    with self.assertRaises(BadNumber):
                        function(coins)
            with self.assertRaises(BadNumber):
                is_payable(coins, 7)

    def test_the_limits(self):
        self.assertEqual(least_row((200,) * 6), [0])
        self.assertEqual(gaps((1, 2, 3, 4, 5, 200)), [])

    def test_fresh_lists(self):
        for function in (least_row, gaps, last_gaps):
            once = function((3, 5))
            kept = list(once)
            once.clear()
            self.assertEqual(function((3, 5)), kept)


if __name__ == "__main__":
    unittest.main()
