"""Blocks of places: one processor does all places of a block, if no two of them work at one beat."""

from math import gcd

from wirebeats.boxes import check_small, count_points, point_at, products_of
from wirebeats.errors import NoMeeting, NotFree
from wirebeats.remainders import next_beat, rhythm_of, works_at
from wirebeats.vectors import dot, is_tuple_of, is_vector, is_within, moved_by


def rests_of(cycle, remainders, sides):
    """The list of what the places of the block of zeros leave, in the ascending order of the places."""
    return [product % cycle for product in products_of(sides, remainders)]


def free_rests(cycle, remainders, sides):
    """The rests of the block of zeros if the sides are free, or None."""
    # A block with more places than a cycle has beats is never free.
    if count_points(sides) > cycle:
        return None
    rests = rests_of(cycle, remainders, sides)
    return rests if len(set(rests)) == len(rests) else None


def cut_sides(cycle, sides):
    """Sides no greater than these that are not free, either, but with not many more places than the cycle has beats."""
    last = min(sides[-1], cycle + 1)
    if len(sides) == 1:
        return (last,)
    return (min(sides[0], cycle // last + 1), last)


def meeting_vector(cycle, remainders, sides):
    """A meeting vector for sides that are not free."""
    small = cut_sides(cycle, sides)
    rests = rests_of(cycle, remainders, small)
    first = {}
    at = 0
    while rests[at] not in first:
        first[rests[at]] = at
        at += 1
    return moved_by(point_at(small, at), -1, point_at(small, first[rests[at]]))


def find_free(cycle, remainders, sides):
    """What the places of the block of zeros leave if the sides are free, or a meeting vector."""
    rests = free_rests(cycle, remainders, sides)
    if rests is None:
        return ("meet", meeting_vector(cycle, remainders, sides))
    return ("free", tuple(rests))


def is_meeting(cycle, remainders, sides, value):
    """Whether value is a meeting vector."""
    if not is_tuple_of(len(sides), value):
        return False
    if not all([is_within(item, 1 - side, side - 1) for item, side in zip(value, sides)]):
        return False
    return any(value) and dot(remainders, value) % cycle == 0


def free_holds(cycle, remainders, sides, value):
    """Whether value is right, whoever made it."""
    if not is_tuple_of(2, value):
        return False
    word, told = value
    if word == "meet":
        return is_meeting(cycle, remainders, sides, told)
    if word != "free" or not is_vector(count_points(sides), told):
        return False
    rests = free_rests(cycle, remainders, sides)
    return rests is not None and told == tuple(rests)


def is_tight(cycle, remainders, sides):
    return count_points(sides) == cycle and free_rests(cycle, remainders, sides) is not None


def greatest_side(cycle, remainder):
    """The greatest side that is free by itself."""
    return cycle // gcd(cycle, remainder)


def second_sides(cycle, remainders):
    """The list of the greatest second sides that are free with the first sides from 1 on, as far as there are such."""
    first, second = remainders
    most = greatest_side(cycle, second)
    # For each rest the least size of an item of the second axis that leaves it, or its opposite.
    sizes = {second * item % cycle: min(item, most - item) for item in range(most)}
    sides = [most]
    for item in range(1, greatest_side(cycle, first)):
        rest = first * item % cycle
        if rest in sizes:
            most = min(most, sizes[rest])
        sides.append(most)
    return sides


def tight_sides(cycle, remainders):
    """The ascending tuple of all tight sides."""
    if len(remainders) == 1:
        return ((cycle,),) if greatest_side(cycle, remainders[0]) == cycle else ()
    seconds = second_sides(cycle, remainders)
    return tuple([(first, second) for first, second in enumerate(seconds, start=1) if first * second == cycle])


def greatest_sides(cycle, remainders):
    """The ascending tuple of all free sides of which none can be greater."""
    if len(remainders) == 1:
        return ((greatest_side(cycle, remainders[0]),),)
    seconds = second_sides(cycle, remainders)
    sides = []
    for first, (second, behind) in enumerate(zip(seconds, seconds[1:] + [0]), start=1):
        if behind < second:
            sides.append((first, second))
    return tuple(sides)


def worker(cycle, remainders, sides, start, block, beat):
    """The place of the block at which a plane with this start works at the beat, or None."""
    rests = free_rests(cycle, remainders, sides)
    if rests is None:
        raise NotFree()
    corner = tuple([item * side for item, side in zip(block, sides)])
    rest = (beat - start - dot(remainders, corner)) % cycle
    if rest not in rests:
        return None
    return moved_by(corner, 1, point_at(sides, rests.index(rest)))


def meeting_points(weights, rows, sides, vector):
    """Two vectors with one beat whose places, in one block, are this meeting vector apart."""
    direction, cycle, rests = rhythm_of(weights, rows)
    if not is_meeting(cycle, rests, sides, vector):
        raise NoMeeting(vector)
    place = tuple([max(0, -item) for item in vector])
    beat = next_beat(weights, direction, rows, place, 0)
    one = works_at(weights, direction, rows, place, beat)
    return (one, works_at(weights, direction, rows, moved_by(place, 1, vector), beat))


def box_meeting(weights, rows, sides, box):
    """The least pair of different points of a small box with one beat whose places are in one block, or None."""
    check_small(box)
    items = [[product // side for product in products_of(box, row)] for row, side in zip(rows, sides)]
    first = {}
    pairs = []
    for at, key in enumerate(zip(products_of(box, weights), *items)):
        if key in first:
            pairs.append((first[key], at))
        else:
            first[key] = at
    if not pairs:
        return None
    one, other = min(pairs)
    return (point_at(box, one), point_at(box, other))
