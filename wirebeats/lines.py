"""The lines of a direction that meet a box, in the order of their first points."""

from wirebeats.boxes import count_points, is_point
from wirebeats.counts import count_lines, count_staying
from wirebeats.directions import check_direction, is_some_direction
from wirebeats.errors import BadDirection, NoIndex, NoPoint
from wirebeats.vectors import is_far, is_within, moved_by, steps_inside, times_in


def check_point(box, point):
    """Raise NoPoint if this is no point of the box."""
    if not is_point(box, point):
        raise NoPoint(point)


def line_through(box, direction, point):
    """The first point and the number of points of the line through a point, and the number of this point on it."""
    check_direction(len(box), direction)
    check_point(box, point)
    low, high = steps_inside(box, direction, point)
    return (moved_by(point, low, direction), high - low + 1, -low)


def steps_between(direction, point, other):
    """How many steps along the direction lead from one far point to another one, or None."""
    if not is_some_direction(direction):
        raise BadDirection(direction)
    for vector in (point, other):
        if not is_far(len(direction), vector):
            raise NoPoint(vector)
    return times_in(direction, moved_by(other, -1, point))


def edge_of(size, move):
    """Numbers (low, high) such that just the items from low to high - 1 have a step back that leads outside."""
    if move > 0:
        return (0, min(size, move))
    return (max(0, size + move), size)


def count_first(box, direction, axis):
    """The number of first points by the items from this axis on alone."""
    sizes = box[axis:]
    return count_points(sizes) - count_staying(sizes, direction[axis:], 1)


def stretches_of(box, direction, axis, met):
    """Stretches of items, ascending: (first item, number of items, is at an edge, first points with each item).

    A point is a first point if an item of it is at an edge. met is whether one further to the left is.
    """
    size = box[axis]
    low, high = (0, size) if met else edge_of(size, direction[axis])
    behind = count_points(box[axis + 1:])
    others = count_first(box, direction, axis + 1)
    return ((0, low, False, others), (low, high - low, True, behind), (high, size - high, False, others))


def line_index(box, direction, point):
    """The number of the line through a point among all that meet the box."""
    first = line_through(box, direction, point)[0]
    index = 0
    met = False
    for axis, item in enumerate(first):
        at_edge = met
        for low, many, edge, each in stretches_of(box, direction, axis, met):
            index = index + each * max(0, min(many, item - low))
            at_edge = at_edge or (edge and low <= item < low + many)
        met = at_edge
    return index


def first_with(box, direction, index):
    """The first point of the line with this number."""
    items = []
    met = False
    rest = index
    for axis in range(len(box)):
        for low, many, edge, each in stretches_of(box, direction, axis, met):
            if rest < many * each:
                items.append(low + rest // each)
                rest = rest % each
                met = edge
                break
            rest = rest - many * each
    return tuple(items)


def line_at(box, direction, index):
    """The first point and the number of points of the line with this number."""
    if not is_within(index, 0, count_lines(box, direction) - 1):
        raise NoIndex(index)
    return line_through(box, direction, first_with(box, direction, index))[:2]


def each_line(box, direction):
    """Yield (first point, number of points) for each line that meets the box, ascending."""
    for index in range(count_lines(box, direction)):
        yield line_at(box, direction, index)
