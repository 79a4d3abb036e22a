"""From which beat to which one a box is worked on."""

from wirebeats.errors import NoPlane
from wirebeats.flows import is_plane


def span_of(flow, timing, box, *planes):
    """The first and the last beat of these planes, or of all if none is given, and the number of beats."""
    for plane in planes:
        if not is_plane(flow, plane):
            raise NoPlane(plane)
    weights, starts = timing
    asked = [starts[plane] for plane in planes] if planes else list(starts)
    ends = [weight * (size - 1) for weight, size in zip(weights, box)]
    first = min(asked) + sum([min(0, end) for end in ends])
    last = max(asked) + sum([max(0, end) for end in ends])
    return (first, last, last - first + 1)
