"""Whether two points of a box are on one line and have one beat."""

from wirebeats.boxes import is_point
from wirebeats.directions import check_direction
from wirebeats.vectors import dot, is_integer, is_tuple_of, is_within, moved_by, times_in


def check_for(box, weights, direction):
    """Raise BadDirection if this is no direction for the box and the weights."""
    check_direction(len(box), direction)
    check_direction(len(weights), direction)


def find_clash(box, weights, direction):
    """Two points that clash, or the period, or a side that shows that there are none."""
    check_for(box, weights, direction)
    rise = dot(weights, direction)
    if rise != 0:
        return ("period", abs(rise))
    for index, (size, move) in enumerate(zip(box, direction)):
        if size <= abs(move):
            return ("side", index)
    one = tuple([max(0, -move) for move in direction])
    return ("clash", one, moved_by(one, 1, direction))


def do_clash(box, weights, direction, one, other):
    """Whether these values are two points that clash."""
    if not is_point(box, one) or not is_point(box, other) or one == other:
        return False
    apart = moved_by(other, -1, one)
    return times_in(direction, apart) is not None and dot(weights, apart) == 0


def clash_holds(box, weights, direction, value):
    """Whether value is right, whoever made it."""
    check_for(box, weights, direction)
    if is_tuple_of(3, value):
        return value[0] == "clash" and do_clash(box, weights, direction, value[1], value[2])
    if not is_tuple_of(2, value):
        return False
    word, told = value
    if word == "period":
        return is_integer(told) and told != 0 and told == abs(dot(weights, direction))
    return word == "side" and is_within(told, 0, len(box) - 1) and box[told] <= abs(direction[told])
