"""The least starts with which weights are beats, or the ring that bars them."""

from wirebeats.beats import beats_error, check_weights
from wirebeats.flows import reads_of
from wirebeats.vectors import dot, is_tuple_of
from wirebeats.ways import is_ring, need_of


def links_of(flow, weights, whole, many):
    """The list of all reads as links (plane, source, rise, read): the rise is whole less so many times the gain."""
    links = []
    for plane, operand, source, distance in reads_of(flow):
        links.append((plane, source, whole - many * dot(weights, distance), (plane, operand)))
    return links


def ring_behind(by, plane):
    """The ring of links to which one comes from a plane, back by the links that have raised each plane."""
    # After so many steps back one is on the ring.
    for _ in by:
        plane = by[plane][1]
    ring = [by[plane]]
    while ring[-1][1] != plane:
        ring.append(by[ring[-1][1]])
    return ring[::-1]


def raised(planes, links):
    """(heights, None) with the least heights from 0 on, or (None, ring) if there are none.

    By each link the height of the plane is at least that of the source and the rise. A ring, which has its links in
    the order of a way, bars this if its rises sum to more than 0.
    """
    heights = [0 for _ in range(planes)]
    by = [None for _ in range(planes)]
    last = None
    # A way without a plane twice has fewer reads than there are planes, so the last round raises nothing
    # unless there is such a ring.
    for _ in range(planes):
        last = None
        for link in links:
            plane, source, rise, _ = link
            height = heights[source] + rise
            if height > heights[plane]:
                heights[plane] = height
                by[plane] = link
                last = plane
        if last is None:
            return (tuple(heights), None)
    return (None, ring_behind(by, last))


def heights_for(flow, weights, whole, many):
    """The heights for the reads with such rises, or a plain ring that bars them, as raised tells them."""
    heights, ring = raised(len(flow[1]), links_of(flow, weights, whole, many))
    if ring is None:
        return (heights, None)
    reads = [link[3] for link in ring]
    # Its reads have different planes, so the least read is the one of the least plane.
    _, at = min([(read, index) for index, read in enumerate(reads)])
    return (None, tuple(reads[at:] + reads[:at]))


def find_starts(flow, weights):
    """The least starts from 0 on, or a plain ring whose need is above 0."""
    check_weights(flow[0], weights)
    starts, ring = heights_for(flow, weights, 1, 1)
    return ("starts", starts) if ring is None else ("ring", ring)


def starts_hold(flow, weights, value):
    """Whether value tells starts that serve, or a ring that bars them, whoever made it."""
    check_weights(flow[0], weights)
    if not is_tuple_of(2, value):
        return False
    word, told = value
    if word == "ring":
        return is_ring(flow, told) and need_of(flow, weights, told) > 0
    return word == "starts" and beats_error(flow, (weights, told)) is None
