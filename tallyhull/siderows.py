"""Rows of sides: the optima of a start plus all multiples of a step, told by finitely many."""

from math import gcd, lcm

from tallyhull.boxes import boxes
from tallyhull.errors import BadNumber, TooLarge
from tallyhull.farkas import columns_at
from tallyhull.linear import columns_of, dot, gauges_of, image_of, less, null_of, stairs_of, step_of
from tallyhull.matrices import check_asked, has_bounded
from tallyhull.staircases import cell_weight, cells

STEP_LIMIT = 9
MOST_PERIOD = 2000
MOST_TIME = 3000
MOST_INDEX = 1000


def check_row(matrix, cost, start, step):
    """Raise the error for what is wrong first of what tells a row of sides."""
    check_asked(matrix, cost, start)
    if not has_bounded(step, len(matrix), STEP_LIMIT):
        raise BadNumber("a step has an integer from -9 to 9 for each row")


def least_multiple(matrix, step):
    """Return the least integer from 1 on by which a step comes into the side lattice, or 1."""
    times = 1
    left = step
    for row in stairs_of(columns_of(matrix), len(matrix)):
        place = step_of(row)
        more = row[place] // gcd(row[place], left[place])
        times = times * more
        left = tuple(more * entry for entry in left)
        left = less(left, left[place] // row[place], row)
    return 1 if any(left) else times


def period_bound(matrix, cost, step):
    """Return the period bound of a row of sides."""
    common = 1
    for places in cells(matrix, cost):
        common = lcm(common, cell_weight(matrix, places))
    return least_multiple(matrix, step) * common


def inverse_of(number, size):
    """Return the integer whose product with a number leaves the rest 1, divided by a size.

    The number and the size have no common divisor.
    """
    high, low = size, number % size
    one, other = 0, 1
    while low != 0:
        times = high // low
        high, low = low, high - times * low
        one, other = other, one - times * other
    return one % size


def solved_rest(factor, wanted, size):
    """Return the rest and the size of the integers whose multiple leaves a wanted rest, or None."""
    common = gcd(factor, size)
    if wanted % common != 0:
        return None
    left = size // common
    return wanted // common * inverse_of(factor // common, left) % left, left


class Times:
    """The integers k from 0 on at which integers p + k q are wanted in some form.

    They are those from `low` on, up to `high` if this is not None, that leave a rest.
    """

    def __init__(self):
        self.low = 0
        self.high = None
        self.rest = 0
        self.size = 1
        self.none = False

    def end_at(self, k):
        """Leave out what is greater than k."""
        self.high = k if self.high is None else min(self.high, k)

    def want_zero(self, p, q):
        """Leave those at which p + k q is 0."""
        if q == 0:
            self.none = self.none or p != 0
        elif p % q != 0:
            self.none = True
        else:
            self.low = max(self.low, -(p // q))
            self.end_at(-(p // q))

    def want_more(self, p, q):
        """Leave those at which p + k q is not negative."""
        if q > 0:
            # The quotient is rounded up.
            self.low = max(self.low, -(p // q))
        elif q < 0:
            self.end_at(p // -q)
        else:
            self.none = self.none or p < 0

    def want_divided(self, p, q, size):
        """Leave those at which p + k q is divided by a size."""
        found = solved_rest(q * self.size, -(p + q * self.rest), size)
        if found is None:
            self.none = True
        else:
            rest, more = found
            self.rest = self.rest + self.size * rest
            self.size = self.size * more

    def span(self):
        """Return the first and the last one, None for no last one; or None for none at all."""
        if self.none:
            return None
        first = self.low + (self.rest - self.low) % self.size
        if self.high is None:
            return first, None
        if first > self.high:
            return None
        return first, self.high - (self.high - first) % self.size


def track_of(matrix, cost, box, gauges, start, step):
    """Return the times of a box, and what its vectors cost then, or None for no times.

    These are the first and the last time, None for no last one, how far it is from one to the
    next, the price at the first one, and how much it grows from one to the next.
    """
    u, free = box
    base = less(start, 1, image_of(matrix, u))
    times = Times()
    for row in null_of(columns_at(matrix, free), len(matrix)):
        times.want_zero(dot(row, base), dot(row, step))
    for row, size in gauges:
        times.want_more(dot(row, base), dot(row, step))
        times.want_divided(dot(row, base), dot(row, step), size)
    span = times.span()
    if span is None:
        return None
    first, last = span
    side = less(base, -first, step)
    price = dot(cost, u) + sum(cost[k] * (dot(row, side) // size)
                               for k, (row, size) in zip(free, gauges))
    growth = sum(cost[k] * (dot(row, step) * times.size // size)
                 for k, (row, size) in zip(free, gauges))
    return first, last, times.size, price, growth


def check_track(track):
    """Raise TooLarge for a box with times that are too great."""
    first, last = track[:2]
    if last is None and first > MOST_TIME:
        raise TooLarge("a box has endlessly many times, the least of which is greater than 3000")
    if last is not None and last >= MOST_TIME:
        raise TooLarge("a box has finitely many times, one of which is 3000 or more")


def tracks_of(matrix, cost, start, step):
    """Return the list of what `track_of` tells of all standard boxes that have times."""
    gauges = {}
    found = []
    for box in boxes(matrix, cost):
        free = box[1]
        if free not in gauges:
            gauges[free] = gauges_of(columns_at(matrix, free), len(matrix))
        track = track_of(matrix, cost, box, gauges[free], start, step)
        if track is not None:
            check_track(track)
            found.append(track)
    return found


def tracks_and_bound(matrix, cost, start, step):
    """Return the tracks of a row of sides, and the period bound."""
    bound = period_bound(matrix, cost, step)
    if bound > MOST_PERIOD:
        raise TooLarge("the period bound is greater than 2000")
    return tracks_of(matrix, cost, start, step), bound


def values_until(tracks, most):
    """Return the list of the row values at 0 to an index."""
    found = {}
    for first, last, gap, price, growth in tracks:
        end = most if last is None else min(last, most)
        for at, k in enumerate(range(first, end + 1, gap)):
            found[k] = price + at * growth
    return [found.get(k) for k in range(most + 1)]


def row_values(matrix, cost, start, step, n):
    """Return the list of the row values at 0 to n."""
    check_row(matrix, cost, start, step)
    if not 0 <= n <= MOST_INDEX:
        raise BadNumber("n is not from 0 to 1000")
    return values_until(tracks_and_bound(matrix, cost, start, step)[0], n)


def goes_on(values, k, period, growth):
    """Return whether the value one period behind k is what the one at k and the growth tell."""
    if values[k] is None or values[k + period] is None:
        return values[k] is None and values[k + period] is None
    return values[k + period] - values[k] == growth


def least_period(values, bound, solved):
    """Return the least period behind the time 3000, and the growth of all values in it.

    At the time `solved`, one of the first so many, as the period bound tells, behind 3000,
    there is a value.
    """
    for period in range(1, bound + 1):
        if bound % period == 0 and values[solved + period] is not None:
            growth = values[solved + period] - values[solved]
            if all(goes_on(values, k, period, growth) for k in range(MOST_TIME, MOST_TIME + bound)):
                return period, growth
    return None


def row_law(matrix, cost, start, step):
    """Return the row law of a row of sides."""
    check_row(matrix, cost, start, step)
    tracks, bound = tracks_and_bound(matrix, cost, start, step)
    # From 3000 on no finite box has a time any more, and all others have begun.
    values = values_until(tracks, MOST_TIME + 2 * bound)
    solved = [k for k in range(MOST_TIME, MOST_TIME + bound) if values[k] is not None]
    period, growth = least_period(values, bound, solved[0]) if solved else (1, 0)
    begin = MOST_TIME
    while begin > 0 and goes_on(values, begin - 1, period, growth):
        begin = begin - 1
    return begin, period, tuple(None if value is None else (value, growth)
                                for value in values[begin:begin + period])


def value_by_law(rule, k):
    """Return what a triple of the form of a row law tells for k."""
    begin, period, entries = rule
    if begin < 0 or period < 1 or len(entries) != period:
        raise BadNumber("the triple is no row law")
    if k < begin:
        raise BadNumber("the row law begins behind k")
    times, at = divmod(k - begin, period)
    if entries[at] is None:
        return None
    value, growth = entries[at]
    return value + growth * times


def solved_times(matrix, cost, start, step):
    """Return the ascending list of all k with a solved side, or None if they are endless."""
    check_row(matrix, cost, start, step)
    tracks = tracks_and_bound(matrix, cost, start, step)[0]
    if any(last is None for _, last, _, _, _ in tracks):
        return None
    found = {k: True for first, last, gap, _, _ in tracks for k in range(first, last + 1, gap)}
    return sorted(found)
