"""How many lines meet a box, how long they are, and how many points have a beat."""

from math import gcd

from wirebeats.boxes import count_points
from wirebeats.directions import check_direction, directions
from wirebeats.errors import NoCount
from wirebeats.vectors import dot, is_integer, steps_inside


def count_staying(box, direction, steps):
    """The number of points of the box from which so many steps lead to a point of the box."""
    return count_points([max(0, size - steps * abs(move)) for size, move in zip(box, direction)])


def greatest_step(box, direction):
    """The greatest number of steps that lead from a point of the box to a point of it."""
    return min([(size - 1) // abs(move) for size, move in zip(box, direction) if move != 0])


def count_lines(box, direction):
    """The number of lines that meet the box."""
    check_direction(len(box), direction)
    return count_points(box) - count_staying(box, direction, 1)


def longest_line(box, direction):
    """The greatest number of points that a line has in the box."""
    check_direction(len(box), direction)
    return greatest_step(box, direction) + 1


def count_long(box, direction, many):
    """The number of lines with at least so many points in the box."""
    check_direction(len(box), direction)
    if not is_integer(many) or many < 1:
        raise NoCount(many)
    # Each such line has one point more with many - 1 steps to go than with many steps to go.
    return count_staying(box, direction, many - 1) - count_staying(box, direction, many)


def fewest_lines(box, weights, most):
    """The least number of lines of a direction with a period other than 0, and the first such direction."""
    serving = [direction for direction in directions(len(box), most) if dot(weights, direction) != 0]
    if not serving:
        return None
    return min([(count_lines(box, direction), direction) for direction in serving])


def count_in_row(size, weight, beat):
    """How many integers from 0 to less than size are the beat when they are taken weight times."""
    if weight == 0:
        return size if beat == 0 else 0
    return 1 if beat % weight == 0 and 0 <= beat // weight < size else 0


def count_flat(box, weights, beat):
    """How many points of a box of two dimensions have a beat."""
    first, second = weights
    if first == 0:
        return box[0] * count_in_row(box[1], second, beat)
    if second == 0:
        return box[1] * count_in_row(box[0], first, beat)
    divisor = gcd(first, second)
    if beat % divisor != 0:
        return 0
    # All points of the grid with the beat are on one line, which the two weights tell.
    start = [item for item in range(abs(second)) if (beat - first * item) % second == 0][0]
    point = (start, (beat - first * start) // second)
    steps = steps_inside(box, (second // divisor, -first // divisor), point)
    return 0 if steps is None else steps[1] - steps[0] + 1


def count_at(box, weights, beat):
    """How many points of the box have a beat; the time grows with the least of three sizes."""
    if len(box) == 2:
        return count_flat(box, weights, beat)
    axis = box.index(min(box))
    others = box[:axis] + box[axis + 1:]
    rest = weights[:axis] + weights[axis + 1:]
    return sum([count_flat(others, rest, beat - weights[axis] * item) for item in range(box[axis])])
