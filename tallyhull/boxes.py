"""Standard boxes: the first solutions of all sides, told by finitely many boxes."""

from tallyhull.errors import BadNumber, NoAnswer, TooLarge
from tallyhull.farkas import columns_at
from tallyhull.linear import dot, gauges_of, image_of, less
from tallyhull.matrices import check_asked, check_pointed, check_side, check_vector, has_integers
from tallyhull.staircases import corners, frees_by

MOST_TRIED = 300000
MOST_LOOKED_AT = 100000


def greatest_entries(vectors, many):
    """Return for each of so many indexes the greatest entry of all vectors, or 0 for none."""
    return [max([vector[k] for vector in vectors], default=0) for k in range(many)]


def volume_at(sizes, places):
    """Return the product of the sizes at some indexes."""
    volume = 1
    for k in places:
        volume = volume * sizes[k]
    return volume


def outside_of(free, many):
    """Return the list of the indexes, of so many, that are not free."""
    return [k for k in range(many) if k not in free]


def bits_of(truths):
    """Return a number in which the bits tell which members of a list are true."""
    found = 0
    for k, truth in enumerate(truths):
        if truth:
            found = found | (1 << k)
    return found


def corner_bits(found, k, entries):
    """Return for each of some entries at an index which corners have none above it there."""
    return [bits_of([corner[k] <= entry for corner in found]) for entry in entries]


def grown_part(part, at, entry, bits):
    """Return the part of a box with one entry more.

    A part tells its entries at indexes that are not free, which corners stand within it so
    far, and for each of these indexes which ones would, if this index were free, too.
    """
    entries, within, others = part
    return entries + (entry,), within & bits, tuple(
        other if k == at else other & bits for k, other in enumerate(others))


def parts_with(found, free, sizes):
    """Return the entries, where they are not free, of all standard boxes with a free set."""
    outside = outside_of(free, len(sizes))
    every = (1 << len(found)) - 1
    layer = [((), every, (every,) * len(outside))]
    for at, k in enumerate(outside):
        # An entry that is as great as those of all corners there might be free.
        told = corner_bits(found, k, list(range(sizes[k])))
        layer = [grown_part(part, at, entry, bits)
                 for part in layer for entry, bits in enumerate(told)]
        # Where no corner stands within it even with one index more free, the box is too small.
        layer = [part for part in layer if all(part[2])]
    return [entries for entries, within, _ in layer if within == 0]


def filled_box(entries, free, many):
    """Return the box with these entries at the indexes that are not free."""
    told = dict(zip(outside_of(free, many), entries))
    return tuple(told.get(k, 0) for k in range(many)), free


def check_tried(found, many):
    """Raise TooLarge if the boxes of the corners would be sought among too many vectors."""
    sizes = greatest_entries(found, many)
    tried = [volume_at(sizes, outside_of(free, many)) for free in frees_by(found, many)]
    if sum(tried) > MOST_TRIED:
        raise TooLarge("the boxes would be sought among more than 300000 vectors")


def boxes_by(found, many):
    """Return the list of the standard boxes by the corners, or raise TooLarge."""
    check_tried(found, many)
    sizes = greatest_entries(found, many)
    # The parts ascend, as their entries were added in the order of the indexes.
    return [filled_box(entries, free, many) for free in sorted(frees_by(found, many))
            for entries in parts_with(found, free, sizes)]


def boxes(matrix, cost):
    """Return the list of the standard boxes."""
    return boxes_by(corners(matrix, cost), len(matrix[0]))


def is_proper_box(matrix, box):
    """Return whether something is a box of a matrix."""
    if not isinstance(box, tuple) or len(box) != 2:
        return False
    u, free = box
    many = len(matrix[0])
    if not has_integers(u, many) or min(u) < 0:
        return False
    if not isinstance(free, tuple) or not has_integers(free, len(free)):
        return False
    # An index that is none of a column is among those that are not found again.
    return free == tuple(k for k in range(many) if k in free) and not any(u[k] for k in free)


def check_box(matrix, box):
    """Raise BadNumber for what is no box of a matrix."""
    if not is_proper_box(matrix, box):
        raise BadNumber("the pair is no box")


def is_box(matrix, box):
    """Return whether a pair of tuples of integers is a box."""
    check_pointed(matrix)
    return is_proper_box(matrix, box)


def in_box(matrix, box, vector):
    """Return whether a box contains a vector."""
    check_pointed(matrix)
    check_vector(matrix, vector)
    check_box(matrix, box)
    u, free = box
    return all(entry >= 0 if k in free else entry == u[k] for k, entry in enumerate(vector))


def stands_within(corner, u, places):
    """Return whether no entry of a corner at some indexes is greater than that of a vector."""
    return all(corner[k] <= u[k] for k in places)


def has_first_alone(found, box):
    """Return whether each vector of a box is first, by the corners."""
    u, free = box
    outside = outside_of(free, len(u))
    return not any(stands_within(corner, u, outside) for corner in found)


def is_standard(matrix, cost, box):
    """Return whether a box is standard."""
    found = corners(matrix, cost)
    check_box(matrix, box)
    if not has_first_alone(found, box):
        return False
    u, free = box
    outside = outside_of(free, len(u))
    # Any greater box would contain one that is greater by one free index alone.
    return all(any(stands_within(corner, u, [j for j in outside if j != k]) for corner in found)
               for k in outside)


def filled_up(chosen, gauges, left):
    """Return how often columns are taken to make a side, as integers from 0 on, or None."""
    times = []
    for row, size in gauges:
        number, rest = divmod(dot(row, left), size)
        if rest != 0 or number < 0:
            return None
        times.append(number)
    for number, column in zip(times, chosen):
        left = less(left, number, column)
    return None if any(left) else times


def vector_of(matrix, box, gauges, side):
    """Return the vector of a box whose image is a side, or None."""
    u, free = box
    left = less(side, 1, image_of(matrix, u))
    times = filled_up(columns_at(matrix, free), gauges, left)
    if times is None:
        return None
    told = dict(zip(free, times))
    return tuple(told.get(k, entry) for k, entry in enumerate(u))


def vector_in(matrix, box, side):
    """Return the vector of a box whose image is a side, or None."""
    check_pointed(matrix)
    check_side(matrix, side)
    check_box(matrix, box)
    gauges = gauges_of(columns_at(matrix, box[1]), len(matrix))
    if gauges is None:
        raise NoAnswer("the free columns are not independent")
    return vector_of(matrix, box, gauges, side)


def first_in(matrix, listed, side):
    """Return the first solution of a side of any size by the standard boxes, or None."""
    gauges = {}
    for box in listed:
        free = box[1]
        if free not in gauges:
            gauges[free] = gauges_of(columns_at(matrix, free), len(matrix))
        vector = vector_of(matrix, box, gauges[free], side)
        if vector is not None:
            return vector
    return None


def first_by_boxes(matrix, cost, side):
    """Return the first solution of a side, found by the standard boxes, or None."""
    check_asked(matrix, cost, side)
    return first_in(matrix, boxes(matrix, cost), side)


def box_bits(found, k, entries):
    """Return for each of some entries at an index which boxes have a vector with it there."""
    free_there = bits_of([k in free for _, free in found])
    told = {}
    for at, (u, free) in enumerate(found):
        if k not in free:
            told[u[k]] = told.get(u[k], 0) | (1 << at)
    return [free_there | told.get(entry, 0) for entry in entries]


def entries_apart(heads, found, k):
    """Return entries at an index for all that corners and boxes tell apart there.

    Between one entry of a corner and the next one the same corners stand, and all entries
    that no box has are alike: the least of them is that of the corner, or behind one of a box.
    """
    told = {0: True}
    for head in heads:
        told[head[k]] = True
    for u, _ in found:
        told[u[k]] = True
        told[u[k] + 1] = True
    return list(told)


def leaves_out_one(heads, found):
    """Return whether a vector is first, by the corners, and in none of some boxes.

    Vectors that have the same corners within them, and the same boxes around them, up to an
    index are looked at together.
    """
    layer = {((1 << len(heads)) - 1, (1 << len(found)) - 1): True}
    for k in range(len(found[0][0])):
        entries = entries_apart(heads, found, k)
        told = {pair: True for pair in zip(
            corner_bits(heads, k, entries), box_bits(found, k, entries))}
        layer = {(within & bits, around & others): True
                 for within, around in layer for bits, others in told}
    return (0, 0) in layer


def lists_all_first(heads, found):
    """Return whether boxes have first vectors alone, by the corners, and leave out none of them."""
    # No boxes leave out the vector of zeros, which is first.
    if not found or not all(has_first_alone(heads, box) for box in found):
        return False
    return not leaves_out_one(heads, found)


def is_box_list(matrix, cost, found):
    """Return whether a list of pairs is a box list."""
    heads = corners(matrix, cost)
    for box in found:
        check_box(matrix, box)
    many = len(matrix[0])
    above = greatest_entries([u for u, _ in found], many)
    sizes = [max(a, b + 1) for a, b in zip(greatest_entries(heads, many), above)]
    if volume_at([size + 1 for size in sizes], list(range(many))) > MOST_LOOKED_AT:
        raise TooLarge("more than 100000 vectors would be looked at")
    return lists_all_first(heads, found)
