"""Beats: at which beat each plane makes its word at each point."""

from wirebeats.bounds import MAX_START, MAX_WEIGHT
from wirebeats.errors import BadWeights, NoPlane, NoPoint
from wirebeats.flows import is_plane
from wirebeats.vectors import dot, is_tuple_of, is_vector, is_within


def weights_error(dims, value):
    if not is_tuple_of(dims, value):
        return (None, "weights")
    for index, weight in enumerate(value):
        if not is_within(weight, -MAX_WEIGHT, MAX_WEIGHT):
            return (index, "weight")
    return None


def check_weights(dims, weights):
    """Raise BadWeights if these are no weights for the dimensions."""
    if weights_error(dims, weights) is not None:
        raise BadWeights(weights)


def starts_error(planes, value):
    if not is_tuple_of(planes, value):
        return (None, "starts")
    for plane, start in enumerate(value):
        if not is_within(start, -MAX_START, MAX_START):
            return (plane, "start")
    return None


def delays_error(delays):
    for plane, row in enumerate(delays):
        for operand, delay in enumerate(row):
            if delay < 1:
                return ((plane, operand), "delay")
    return None


def beats_error(flow, value):
    """The first reason why value is no beats of the flow, or None."""
    if not is_tuple_of(2, value):
        return (None, "beats")
    dims, rules = flow
    error = weights_error(dims, value[0])
    if error is None:
        error = starts_error(len(rules), value[1])
    if error is None:
        error = delays_error(delays_of(flow, value))
    return error


def delays_of(flow, timing):
    """For each plane, the tuple of the delays of its reads."""
    weights, starts = timing
    delays = []
    for plane, rule in enumerate(flow[1]):
        row = [dot(weights, distance) + starts[plane] - starts[source] for source, distance in rule[1:]]
        delays.append(tuple(row))
    return tuple(delays)


def beat_of(flow, timing, plane, point):
    """The beat of a plane at a point, which need not be in a box."""
    if not is_plane(flow, plane):
        raise NoPlane(plane)
    if not is_vector(flow[0], point):
        raise NoPoint(point)
    weights, starts = timing
    return dot(weights, point) + starts[plane]
