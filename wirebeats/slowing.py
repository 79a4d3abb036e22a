"""By which factor weights must be slowed to have starts, and which ring is the slowest."""

from math import gcd

from wirebeats.beats import beats_error, check_weights
from wirebeats.bounds import MAX_WEIGHT
from wirebeats.errors import TooLarge
from wirebeats.flows import reads_of
from wirebeats.starts import heights_for
from wirebeats.vectors import dot, is_integer, is_tuple_of, is_vector
from wirebeats.ways import gains_of, is_ring


def slowed(weights, factor):
    return tuple([weight * factor for weight in weights])


def least_factor(flow, weights):
    """(factor, starts, ring) as find_factor tells them, or (None, None, ring) if no factor has starts."""
    factor = 1
    slowest = None
    starts, ring = heights_for(flow, weights, 1, factor)
    while ring is not None:
        gains = gains_of(flow, weights, ring)
        if gains <= 0:
            return (None, None, ring)
        # The least factor that this ring does not bar; it is greater than the last one, and never more than 6.
        factor = -(-len(ring) // gains)
        slowest = ring
        starts, ring = heights_for(flow, weights, 1, factor)
    return (factor, starts, slowest)


def checked_factor(flow, weights):
    """What least_factor tells, if weights are weights and remain so when they are slowed."""
    check_weights(flow[0], weights)
    factor, starts, ring = least_factor(flow, weights)
    if factor is not None and max([abs(weight) for weight in weights]) * factor > MAX_WEIGHT:
        raise TooLarge(MAX_WEIGHT)
    return (factor, starts, ring)


def find_factor(flow, weights):
    """The least factor with starts, and a ring that bars the one before it; or a ring that bars all."""
    factor, starts, ring = checked_factor(flow, weights)
    return ("never", ring) if factor is None else ("factor", factor, starts, ring)


def is_never(flow, weights, ring):
    """Whether this is a ring whose gains are 0 or less."""
    return is_ring(flow, ring) and gains_of(flow, weights, ring) <= 0


def is_barring(flow, weights, factor, ring):
    """Whether this is a ring that bars the factor before this one, or None if there is none before it."""
    if factor == 1:
        return ring is None
    return is_ring(flow, ring) and len(ring) > gains_of(flow, weights, ring) * (factor - 1)


def factor_holds(flow, weights, value):
    """Whether value is right, whoever made it."""
    factor, _, _ = checked_factor(flow, weights)
    if is_tuple_of(2, value):
        return value[0] == "never" and is_never(flow, weights, value[1])
    if not is_tuple_of(4, value) or value[0] != "factor" or not is_integer(value[1]) or value[1] != factor:
        return False
    if not is_barring(flow, weights, factor, value[3]):
        return False
    return beats_error(flow, (slowed(weights, factor), value[2])) is None


def find_ratio(flow, weights):
    """The greatest length of a ring for its gains, with a ring and heights that show it; or a ring without gains."""
    check_weights(flow[0], weights)
    length = 0
    gains = 1
    slowest = None
    heights, ring = heights_for(flow, weights, gains, length)
    while ring is not None:
        # Each ring that bars the heights has a greater ratio than the one before it, or gains of 0 or less.
        slowest = ring
        gains = gains_of(flow, weights, ring)
        if gains <= 0:
            return ("never", ring)
        divisor = gcd(len(ring), gains)
        length = len(ring) // divisor
        gains = gains // divisor
        heights, ring = heights_for(flow, weights, gains, length)
    return ("ratio", length, gains, slowest, heights)


def do_fit(flow, weights, length, gains, heights):
    """Whether these are heights that show that no ring has a greater ratio."""
    if not is_vector(len(flow[1]), heights):
        return False
    for plane, _, source, distance in reads_of(flow):
        if length * dot(weights, distance) + heights[plane] - heights[source] < gains:
            return False
    return True


def is_ratio(flow, weights, length, gains, ring):
    """Whether this is, in lowest terms, the ratio of the ring."""
    if not is_integer(length) or not is_integer(gains) or length < 1 or gains < 1 or gcd(length, gains) != 1:
        return False
    return is_ring(flow, ring) and len(ring) * gains == length * gains_of(flow, weights, ring)


def ratio_holds(flow, weights, value):
    """Whether value is right, whoever made it."""
    check_weights(flow[0], weights)
    if is_tuple_of(2, value):
        return value[0] == "never" and is_never(flow, weights, value[1])
    if not is_tuple_of(5, value) or value[0] != "ratio":
        return False
    _, length, gains, ring, heights = value
    return is_ratio(flow, weights, length, gains, ring) and do_fit(flow, weights, length, gains, heights)
