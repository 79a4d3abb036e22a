"""Ways of reads from plane to plane, and the rings among them."""

from wirebeats.errors import NoPlane
from wirebeats.flows import is_plane, reads_of
from wirebeats.vectors import dot, is_tuple_of, is_within


def read_told(flow, read):
    """The source and the distance of a read that is told by its plane and its operand."""
    plane, operand = read
    return flow[1][plane][operand + 1]


def is_read(flow, value):
    """Whether value tells a read by its plane and its operand."""
    if not is_tuple_of(2, value) or not is_plane(flow, value[0]):
        return False
    return is_within(value[1], 0, len(flow[1][value[0]]) - 2)


def is_way(flow, value):
    if not isinstance(value, tuple) or not all([is_read(flow, read) for read in value]):
        return False
    return all([read_told(flow, read)[0] == before[0] for before, read in zip(value, value[1:])])


def is_ring(flow, value):
    if not is_way(flow, value) or not value:
        return False
    return read_told(flow, value[0])[0] == value[-1][0]


def gains_of(flow, weights, way):
    return sum([dot(weights, read_told(flow, read)[1]) for read in way])


def need_of(flow, weights, way):
    """The length of the way less its gains."""
    return len(way) - gains_of(flow, weights, way)


def way_to(flow, plane, other):
    """A way with as few reads as possible from one plane to another one, or None."""
    if not is_plane(flow, plane):
        raise NoPlane(plane)
    if not is_plane(flow, other):
        raise NoPlane(other)
    ways = {plane: ()}
    fresh = [plane]
    while fresh and other not in ways:
        reached = []
        for reader, operand, source, _ in reads_of(flow):
            if source in fresh and reader not in ways:
                ways[reader] = ways[source] + ((reader, operand),)
                reached.append(reader)
        fresh = reached
    return ways.get(other)


def longer_ways(flow, way):
    """The ways with one read more that may still become plain rings."""
    planes = [read[0] for read in way]
    ways = []
    for plane, operand, source, _ in reads_of(flow):
        if source == planes[-1] and plane > planes[0] and plane not in planes:
            ways.append(way + ((plane, operand),))
    return ways


def rings_of(flow):
    """The ascending tuple of all plain rings."""
    rings = []
    ways = [((plane, operand),) for plane, operand, _, _ in reads_of(flow)]
    while ways:
        way = ways.pop()
        if is_ring(flow, way):
            rings.append(way)
        else:
            ways.extend(longer_ways(flow, way))
    return tuple(sorted(rings))
