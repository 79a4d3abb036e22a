"""Hops: reads that are passed on by planes that copy."""

from wirebeats.beats import delays_of
from wirebeats.bounds import MAX_DIST, MAX_ENTRIES, MAX_PLANES, MAX_START
from wirebeats.boxes import is_point
from wirebeats.errors import BadHops, NoOperand, NoPlane, TooLarge, TooMany, TooShort
from wirebeats.flows import is_plane
from wirebeats.vectors import combined, dot, is_bounded, is_within, moved_by
from wirebeats.words import check_outside


def is_hop(distance, value):
    """Whether value is a distance each item of which is between 0 and that of the whole distance."""
    if not is_bounded(len(distance), value, MAX_DIST):
        return False
    return all([min(0, whole) <= item <= max(0, whole) for item, whole in zip(value, distance)])


def hops_error(distance, value):
    """The first reason why value is no hops for the distance, or None."""
    if not isinstance(value, tuple) or not 2 <= len(value) <= MAX_PLANES:
        return (None, "hops")
    for index, hop in enumerate(value):
        if not is_hop(distance, hop):
            return (index, "hop")
    if combined((1,) * len(value), value) != distance:
        return (None, "sum")
    return None


def relayed(flow, plane, operand, hops):
    """The flow in which a read is passed on by new planes, one for each hop but the last one."""
    if not is_plane(flow, plane):
        raise NoPlane(plane)
    dims, rules = flow
    rule = rules[plane]
    if not is_within(operand, 0, len(rule) - 2):
        raise NoOperand(operand)
    source, distance = rule[1 + operand]
    error = hops_error(distance, hops)
    if error is not None:
        raise BadHops(error)
    before = len(rules)
    last = before + len(hops) - 2
    if last >= MAX_PLANES:
        raise TooMany(MAX_PLANES)
    sources = (source,) + tuple(range(before, last))
    added = tuple([("copy", (there, hop)) for there, hop in zip(sources, hops)])
    changed = rule[:1 + operand] + ((last, hops[-1]),) + rule[2 + operand:]
    return (dims, rules[:plane] + (changed,) + rules[plane + 1:] + added)


def relayed_beats(flow, beats, plane, operand, hops):
    """Beats of the flow that is relayed, with the same weights and the same starts of the old planes."""
    relayed(flow, plane, operand, hops)
    delay = delays_of(flow, beats)[plane][operand]
    if delay < len(hops):
        raise TooShort(delay)
    weights, starts = beats
    start = starts[flow[1][plane][1 + operand][0]]
    for hop in hops[:-1]:
        start = start + 1 - dot(weights, hop)
        if not -MAX_START <= start <= MAX_START:
            raise TooLarge(MAX_START)
        starts = starts + (start,)
    return (weights, starts)


def relayed_outside(flow, box, outside, plane, operand, hops):
    """An outside for the flow that is relayed, with which the old planes keep their words."""
    check_outside(flow, box, outside)
    relayed(flow, plane, operand, hops)
    source, distance = flow[1][plane][1 + operand]
    # A word 0 needs no entry, and one that no point of the box reads makes no word of an old plane.
    told = [(vector, word) for at, vector, word in outside if at == source and word != 0]
    read = [(vector, word) for vector, word in told if is_point(box, moved_by(vector, 1, distance))]
    entries = list(outside)
    for new, hop in enumerate(hops[:-1], start=len(flow[1])):
        read = [(moved_by(vector, 1, hop), word) for vector, word in read]
        entries.extend([(new, vector, word) for vector, word in read if not is_point(box, vector)])
    if len(entries) > MAX_ENTRIES:
        raise TooMany(MAX_ENTRIES)
    return tuple(entries)
