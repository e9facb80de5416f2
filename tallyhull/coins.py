"""Coins: which amounts are sums of them, and which are gaps."""

from heapq import heappop, heappush
from math import gcd

from tallyhull.errors import BadNumber
from tallyhull.matrices import has_integers

MOST_COINS = 6
GREATEST_COIN = 200


def check_coins(coins):
    """Raise BadNumber for what is no tuple of coins."""
    if not isinstance(coins, tuple) or not 1 <= len(coins) <= MOST_COINS:
        raise BadNumber("there are 1 to 6 coins")
    if not has_integers(coins, len(coins)) or not all(1 <= c <= GREATEST_COIN for c in coins):
        raise BadNumber("a coin is an integer from 1 to 200")


def divisor_of(coins):
    """Return the greatest common divisor of coins."""
    common = 0
    for coin in coins:
        common = gcd(common, coin)
    return common


def row_of(coins):
    """Return the least row of coins."""
    least = min(coins)
    found = {}
    queue = [0]
    # The amounts come in ascending order, so the first one that leaves a rest is the least.
    while queue:
        amount = heappop(queue)
        if amount % least not in found:
            found[amount % least] = amount
            for coin in coins:
                heappush(queue, amount + coin)
    return [found[rest] for rest in range(0, least, divisor_of(coins))]


def least_row(coins):
    """Return the least row of coins, a list."""
    check_coins(coins)
    return row_of(coins)


def is_payable_by(row, coins, amount):
    """Return whether an amount is payable, by the least row of the coins."""
    common = divisor_of(coins)
    return amount % common == 0 and amount >= row[amount % min(coins) // common]


def is_payable(coins, amount):
    """Return whether an amount, any integer, is payable."""
    return is_payable_by(least_row(coins), coins, amount)


def gaps(coins):
    """Return the ascending list of the gaps."""
    row = least_row(coins)
    least = min(coins)
    return sorted([gap for entry in row for gap in range(entry % least, entry, least)])


def gap_count(coins):
    """Return the number of the gaps."""
    row = least_row(coins)
    return sum(entry // min(coins) for entry in row)


def greatest_gap(coins):
    """Return the greatest gap, or None if there is none."""
    greatest = max(least_row(coins)) - min(coins)
    return greatest if greatest > 0 else None


def last_gaps(coins):
    """Return the ascending list of the last gaps."""
    row = least_row(coins)
    # With the least coin added a last gap is payable: so it is the greatest one with its rest.
    tops = [entry - min(coins) for entry in row if entry > min(coins)]
    return sorted([top for top in tops
                   if all(is_payable_by(row, coins, top + coin) for coin in coins)])


def is_even_handed(coins):
    """Return whether coins have a greatest gap that is the only last one."""
    return len(last_gaps(coins)) == 1
