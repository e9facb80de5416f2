"""Dependences of a pointed matrix: the Graver list, papers for it, circuits and walks."""

from heapq import heappop, heappush
from itertools import combinations

from tallyhull.errors import NoAnswer, TooLarge
from tallyhull.linear import columns_of, image_of, less, lone_at, null_of, opposite_of
from tallyhull.linear import rank_among, step_of
from tallyhull.matrices import check_pointed, check_vector
from tallyhull.signs import headed, takings

MOST_LISTED = 150
MOST_HANDED_IN = 200
MOST_STEPS = 2000


def marks_of(vector):
    """Return the signs of a vector as bits: two for each index, none of them for 0."""
    found = 0
    for k, entry in enumerate(vector):
        if entry > 0:
            found = found | (1 << 2 * k)
        elif entry < 0:
            found = found | (2 << 2 * k)
    return found


class Member:
    """A vector with what is asked of it most often, for its first so many entries."""

    def __init__(self, vector, many):
        self.vector = vector
        self.marks = marks_of(vector[:many])
        self.counter = marks_of(opposite_of(vector[:many]))
        self.sizes = [abs(entry) for entry in vector[:many]]


def is_over(member, other):
    """Return whether a member has another one below it, in the entries that both tell."""
    if member.marks | other.marks != member.marks:
        return False
    return all(a <= b for a, b in zip(other.sizes, member.sizes))


class Stage:
    """The Graver list of the entries up to a place, made out of that of those before it.

    The vectors are those of the null lattice, told in full, but only the entries up to
    the place are looked at. If the null basis has a row with its step at the place, the
    vectors are wanted with an entry there that is less, without sign, than that of the row.

    All sums of two members are looked at that cancel at the place and nowhere before it:
    any vector is a sum of members that do not cancel before the place, and two of them
    that cancel there are replaced by what is below their sum. As the sums come in the
    order of their level, the sum of their entries before the place without signs, each
    one that has no member below it is a vector of the Graver list itself. And each vector
    of a Graver list of fewer entries goes on to one or more of that of more entries: so
    as soon as one stage has too many, the Graver list has, too.
    """

    def __init__(self, place, row):
        self.place = place
        self.row = row
        self.members = []
        self.queue = []
        self.seen = {}

    def lifts(self, vector):
        """Return the vectors with the same entries before the place that are wanted."""
        if self.row is None:
            return [vector]
        low = less(vector, vector[self.place] // self.row[self.place], self.row)
        if low[self.place] == 0:
            return [low]
        return [low, less(low, 1, self.row)]

    def propose(self, vector):
        """Let the lifts of a sum wait until it is their turn."""
        level = sum(abs(entry) for entry in vector[:self.place])
        for lift in self.lifts(vector):
            key = headed(lift[:self.place + 1])
            if key not in self.seen:
                self.seen[key] = True
                heappush(self.queue, (level, lift))

    def admit(self, vector):
        """Take in a vector and its opposite, and propose its sums with all others."""
        one = Member(vector, self.place + 1)
        top = one.marks >> (2 * self.place) << (2 * self.place)
        if top != 0:
            for other in self.members:
                if one.marks & other.counter == top:
                    self.propose(less(vector, -1, other.vector))
        self.members.append(one)
        self.members.append(Member(opposite_of(vector), self.place + 1))

    def is_new(self, vector):
        """Return whether no member is below a vector."""
        one = Member(vector, self.place + 1)
        return not any(is_over(one, other) for other in self.members)

    def found(self):
        """Return the list of the vectors taken in, one of each and its opposite."""
        last = [] if self.row is None else [self.row]
        return [member.vector for member in self.members[::2]] + last


def lifted(vectors, place, row, most):
    """Return the Graver list of the entries up to a place, or None if there are too many."""
    stage = Stage(place, row)
    for vector in vectors:
        for lift in stage.lifts(vector):
            stage.admit(lift)
    while stage.queue:
        vector = heappop(stage.queue)[1]
        if stage.is_new(vector):
            stage.admit(vector)
        if len(stage.members) > 2 * most:
            return None
    found = stage.found()
    return None if len(found) > most else found


def graver_of(matrix, most):
    """Return the Graver list of a matrix, pointed or not, or None for more than so many vectors."""
    many = len(matrix[0])
    rows = {step_of(row): row for row in null_of(matrix, many)}
    found = []
    for place in range(many):
        found = lifted(found, place, rows.get(place), most)
        if found is None:
            return None
    return sorted([headed(vector) for vector in found])


def graver_or_raise(matrix):
    """Return the Graver list of a pointed matrix, or raise TooLarge."""
    found = graver_of(matrix, MOST_LISTED)
    if found is None:
        raise TooLarge("the Graver list has more than 150 vectors")
    return found


def graver_list(matrix):
    """Return the Graver list."""
    check_pointed(matrix)
    return graver_or_raise(matrix)


def is_null(matrix, vector):
    """Return whether a vector is a dependence."""
    return any(vector) and not any(image_of(matrix, vector))


def is_dependence(matrix, vector):
    """Return whether a vector is a dependence."""
    check_pointed(matrix)
    check_vector(matrix, vector)
    return is_null(matrix, vector)


def goes_down(members, vector):
    """Return whether a vector goes down to 0 by members and their opposites."""
    marks = marks_of(vector)
    near = [one.vector for one in members
            if one.marks | marks == marks or one.counter | marks == marks]
    return not any(takings(near, vector)[1])


def sums_go_down(members):
    """Return whether the sum and the difference of each two members goes down to 0."""
    for one, other in combinations(members, 2):
        # Terms without signs against each other lie below their sum: it goes down by them.
        if one.marks & other.counter and not goes_down(members, less(one.vector, -1, other.vector)):
            return False
        if one.marks & other.marks and not goes_down(members, less(one.vector, 1, other.vector)):
            return False
    return True


def is_graver_paper(matrix, vectors):
    """Return whether a list is a Graver paper."""
    check_pointed(matrix)
    for vector in vectors:
        check_vector(matrix, vector)
    if len(vectors) > MOST_HANDED_IN:
        raise TooLarge("there are more than 200 vectors")
    if not all(is_null(matrix, vector) for vector in vectors):
        return False
    if len({headed(vector): True for vector in vectors}) < len(vectors):
        return False
    many = len(matrix[0])
    members = [Member(vector, many) for vector in vectors]
    return all(goes_down(members, row) for row in null_of(matrix, many)) and sums_go_down(members)


def in_graver_list(matrix, vector):
    """Return whether a vector is a dependence with no other one below it."""
    check_pointed(matrix)
    check_vector(matrix, vector)
    return headed(vector) in graver_or_raise(matrix)


def circuits(matrix):
    """Return the ascending list of the circuits whose first entry that is not 0 is positive."""
    check_pointed(matrix)
    found = {}
    for size in range(1, rank_among(columns_of(matrix), len(matrix)) + 2):
        for places in combinations(range(len(matrix[0])), size):
            lone = lone_at(matrix, places)
            if lone is not None:
                found[lone] = True
    return sorted(found)


def members_in(matrix, vector):
    """Return how often which vectors of the Graver list, or opposites, add up to a null vector."""
    rows = graver_or_raise(matrix)
    found, _ = takings(rows, vector)
    return [(rows[k] if times > 0 else opposite_of(rows[k]), abs(times)) for k, times in found]


def sum_of(matrix, vector):
    """Return how often which vectors of the Graver list, or opposites, add up to a dependence."""
    if not is_dependence(matrix, vector):
        raise NoAnswer("the vector is no dependence")
    return sorted(members_in(matrix, vector))


def walk_of(matrix, one, other):
    """Return a list of solutions from one solution to another one of the same side, or raise TooLarge.

    At each column they are between both.
    """
    steps = members_in(matrix, less(other, 1, one))
    if sum(times for _, times in steps) > MOST_STEPS:
        raise TooLarge("the walk would have more than 2000 steps")
    found = [one]
    for step, times in steps:
        for _ in range(times):
            found.append(less(found[-1], -1, step))
    return found


def walk(matrix, one, other):
    """Return a list of solutions of one side that leads from the first one to the other one."""
    check_pointed(matrix)
    check_vector(matrix, one)
    check_vector(matrix, other)
    if min(one) < 0 or min(other) < 0 or image_of(matrix, one) != image_of(matrix, other):
        raise NoAnswer("these are not two solutions of one side")
    return walk_of(matrix, one, other)
