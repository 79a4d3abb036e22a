"""Boxes and their points."""

from wirebeats.bounds import MAX_POINTS, MAX_SIZE
from wirebeats.errors import NoIndex, NoPoint, TooLarge
from wirebeats.vectors import grid, is_tuple_of, is_within


def box_error(dims, value):
    """The first reason why value is no box with these dimensions, or None."""
    if not is_tuple_of(dims, value):
        return (None, "box")
    for index, size in enumerate(value):
        if not is_within(size, 1, MAX_SIZE):
            return (index, "size")
    return None


def count_points(box):
    many = 1
    for size in box:
        many = many * size
    return many


def check_small(box):
    """Raise TooLarge if the box is not small."""
    if count_points(box) > MAX_POINTS:
        raise TooLarge(MAX_POINTS)


def points_of(box):
    """The ascending tuple of the points of a small box."""
    check_small(box)
    last = [size - 1 for size in box]
    return tuple(grid((0,) * len(box), last))


def products_of(box, vector):
    """The list of the products of the vector and the points of a small box, in the ascending order of the points."""
    products = [0]
    for size, item in zip(box, vector):
        products = [product + item * at for product in products for at in range(size)]
    return products


def is_point(box, value):
    if not is_tuple_of(len(box), value):
        return False
    return all([is_within(item, 0, size - 1) for item, size in zip(value, box)])


def point_index(box, point):
    """The index of a point among all points of the box in ascending order."""
    if not is_point(box, point):
        raise NoPoint(point)
    index = 0
    for item, size in zip(point, box):
        index = index * size + item
    return index


def point_at(box, index):
    """The point of the box with this index."""
    if not is_within(index, 0, count_points(box) - 1):
        raise NoIndex(index)
    items = []
    rest = index
    for size in reversed(list(box)):
        items = [rest % size] + items
        rest = rest // size
    return tuple(items)
