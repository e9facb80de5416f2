"""Lists of dependences that join all solutions of a side, or of every side."""

from tallyhull.errors import NotMoves
from tallyhull.graver import graver_or_raise, is_null
from tallyhull.linear import image_of, less, opposite_of
from tallyhull.matrices import check_pointed, check_side, has_integers
from tallyhull.signs import parts, support
from tallyhull.solutions import solutions_of


def check_dependences(matrix, moves):
    """Raise NotMoves if a list has something that is no dependence."""
    for move in moves:
        if not has_integers(move, len(matrix[0])) or not is_null(matrix, move):
            raise NotMoves("the list has something that is no dependence")


def reached_from(start, steps, every):
    """Return a dict of the vectors, of those of a dict, to which steps lead from one of them."""
    found = {start: True}
    queue = [start]
    while queue:
        here = queue.pop()
        for step in steps:
            there = less(here, -1, step)
            if there in every and there not in found:
                found[there] = True
                queue.append(there)
    return found


def both_ways(moves):
    """Return the list of dependences and their opposites."""
    return list(moves) + [opposite_of(move) for move in moves]


def joins_side(matrix, moves, side):
    """Return whether a list of dependences joins a side."""
    check_pointed(matrix)
    check_dependences(matrix, moves)
    check_side(matrix, side)
    every = {vector: True for vector in solutions_of(matrix, side)}
    if not every:
        return True
    return len(reached_from(list(every)[0], both_ways(moves), every)) == len(every)


def level_of(matrix, vector):
    """Return the level of a dependence: the image of its parts."""
    return image_of(matrix, parts(vector)[0])


def levels_of(matrix, vectors):
    """Return for the level of each of some dependences the list of all of its solutions."""
    found = {}
    for vector in vectors:
        level = level_of(matrix, vector)
        if level not in found:
            found[level] = solutions_of(matrix, level)
    return found


def unjoined(matrix, moves):
    """Return the first vector of the Graver list between whose parts there is no walk, or None."""
    check_pointed(matrix)
    check_dependences(matrix, moves)
    listed = graver_or_raise(matrix)
    solved = levels_of(matrix, listed)
    steps = both_ways(moves)
    for vector in listed:
        # A member of the list, or its opposite, is a walk itself.
        if vector not in steps:
            one, other = parts(vector)
            every = {solution: True for solution in solved[level_of(matrix, vector)]}
            if other not in reached_from(one, steps, every):
                return vector
    return None


def joins_all(matrix, moves):
    """Return whether a list of dependences is a joining list."""
    return unjoined(matrix, moves) is None


def classes_of(vectors):
    """Return a solution of each class of near solutions."""
    found = []
    for vector in vectors:
        marks = sum(1 << k for k in support(vector))
        near = [group for group in found if group[1] & marks]
        far = [group for group in found if not group[1] & marks]
        first = near[0][0] if near else vector
        # A solution is near to a class if it has a column in common with any of its members.
        for _, others in near:
            marks = marks | others
        found = far + [(first, marks)]
    return [first for first, _ in found]


def needed_classes(matrix):
    """Return the ascending list of the needed sides, each with a solution of each of its classes."""
    check_pointed(matrix)
    solved = levels_of(matrix, graver_or_raise(matrix))
    told = [(side, classes_of(solved[side])) for side in sorted(solved)]
    return [(side, firsts) for side, firsts in told if len(firsts) > 1]


def needed_sides(matrix):
    """Return the ascending list of the pairs of a needed side and the number of its classes."""
    return [(side, len(firsts)) for side, firsts in needed_classes(matrix)]


def least_joining(matrix):
    """Return a least joining list, a list of dependences."""
    # Solutions of different classes have no column in common: so they are parts of a dependence.
    return [less(other, 1, firsts[0])
            for _, firsts in needed_classes(matrix) for other in firsts[1:]]
