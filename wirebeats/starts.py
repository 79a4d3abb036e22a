"""The least starts with which weights are beats, or the ring that bars them."""

from wirebeats.beats import beats_error, check_weights
from wirebeats.flows import reads_of
from wirebeats.vectors import dot, is_tuple_of
from wirebeats.ways import is_ring, need_of, rings_of


def least_starts(flow, weights):
    """The least starts from 0 on, or None if no starts suffice."""
    planes = len(flow[1])
    starts = [0 for _ in range(planes)]
    # A way without a plane twice has fewer reads than there are planes, so the last round raises nothing
    # unless the need of a ring is above 0.
    for _ in range(planes):
        before = list(starts)
        for plane, _, source, distance in reads_of(flow):
            starts[plane] = max(starts[plane], starts[source] + 1 - dot(weights, distance))
        if starts == before:
            return tuple(starts)
    return None


def find_starts(flow, weights):
    """The least starts from 0 on, or a plain ring whose need is above 0."""
    check_weights(flow[0], weights)
    starts = least_starts(flow, weights)
    if starts is not None:
        return ("starts", starts)
    rings = [ring for ring in rings_of(flow) if need_of(flow, weights, ring) > 0]
    return ("ring", rings[0])


def starts_hold(flow, weights, value):
    """Whether value tells starts that serve, or a ring that bars them, whoever made it."""
    check_weights(flow[0], weights)
    if not is_tuple_of(2, value):
        return False
    word, told = value
    if word == "ring":
        return is_ring(flow, told) and need_of(flow, weights, told) > 0
    return word == "starts" and beats_error(flow, (weights, told)) is None
