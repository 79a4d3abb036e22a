"""Which points of a line, and how many of a box, read words from outside."""

from wirebeats.boxes import count_points, is_point
from wirebeats.errors import NoPlane, NoPoint
from wirebeats.flows import is_plane, reads_of
from wirebeats.vectors import moved_by, steps_inside


def from_outside(box, direction, point, distance):
    """The stretches (index, count) of the line's points that read from outside."""
    if not is_point(box, point):
        raise NoPoint(point)
    low, high = steps_inside(box, direction, point)
    inside = steps_inside(box, direction, moved_by(point, -1, distance))
    if inside is None:
        return ((0, high - low + 1),)
    first = max(low, inside[0])
    last = min(high, inside[1])
    if first > last:
        return ((0, high - low + 1),)
    stretches = ((0, first - low), (last + 1 - low, high - last))
    return tuple([stretch for stretch in stretches if stretch[1] > 0])


def cuts_of(size, moves):
    """The ascending list of the items at which the box or the box moved by one of these begins or ends."""
    return sorted(set([0, size] + [-move for move in moves] + [size - move for move in moves]))


def cells_of(box, distances):
    """The list of the cells (first vector, sizes) into which the box and the moved boxes cut one another."""
    cells = [((), ())]
    for axis, size in enumerate(box):
        cuts = cuts_of(size, [distance[axis] for distance in distances])
        sides = [(low, high - low) for low, high in zip(cuts, cuts[1:])]
        cells = [(first + (low,), sizes + (many,)) for first, sizes in cells for low, many in sides]
    return cells


def is_read_from(box, distances, vector):
    """Whether some point of the box reads the vector."""
    return any([is_point(box, moved_by(vector, 1, distance)) for distance in distances])


def count_outside(flow, box, plane):
    """The number of different outside words of a plane that are read in the box."""
    if not is_plane(flow, plane):
        raise NoPlane(plane)
    distances = sorted(set([distance for _, _, source, distance in reads_of(flow) if source == plane]))
    # Each cell is read as a whole or not at all, so its first vector tells.
    cells = [cell for cell in cells_of(box, distances) if not is_point(box, cell[0])]
    return sum([count_points(sizes) for first, sizes in cells if is_read_from(box, distances, first)])
