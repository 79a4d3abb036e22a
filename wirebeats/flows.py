"""Flows: rules that tell each word by words at fixed distances from it."""

from wirebeats.bounds import MAX_DIST, MAX_PLANES
from wirebeats.errors import NoPlane, OtherDims, TooMany
from wirebeats.vectors import is_bounded, is_integer, is_tuple_of, is_vector, is_within

KINDS = {"copy": 1, "neg": 1, "add": 2, "sub": 2, "mul": 2, "least": 2, "most": 2, "madd": 3}


def has_form(rule):
    """Whether the rule is a tuple of a kind and as many items as this kind has reads."""
    if not isinstance(rule, tuple) or not rule:
        return False
    kind = rule[0]
    return isinstance(kind, str) and kind in KINDS and len(rule) == 1 + KINDS[kind]


def are_rules(value):
    """Whether value is a tuple of as many items as there can be rules."""
    return isinstance(value, tuple) and 1 <= len(value) <= MAX_PLANES


def read_error(dims, planes, value):
    """The word for what is wrong with a read of so many planes, or None."""
    if not is_tuple_of(2, value):
        return "read"
    source, distance = value
    if not is_within(source, 0, planes - 1):
        return "source"
    if not is_bounded(dims, distance, MAX_DIST):
        return "distance"
    return None


def rule_error(dims, planes, value):
    """The first error of a rule whose reads may be of so many planes, with its operand, or None."""
    if not has_form(value):
        return (None, "rule")
    for operand, read in enumerate(value[1:]):
        word = read_error(dims, planes, read)
        if word is not None:
            return (operand, word)
    return None


def flow_error(value):
    """The first reason why value is no flow, or None."""
    if not is_tuple_of(2, value):
        return (None, "flow")
    dims, rules = value
    if not is_within(dims, 2, 3):
        return (None, "dims")
    if not are_rules(rules):
        return (None, "rules")
    for plane, rule in enumerate(rules):
        error = rule_error(dims, len(rules), rule)
        if error is not None:
            operand, word = error
            return (plane if operand is None else (plane, operand), word)
    return None


def is_flow(value):
    return flow_error(value) is None


def is_plane(flow, value):
    return is_within(value, 0, len(flow[1]) - 1)


def has_rule(rules, value):
    """Whether value is one of the rules, without bools in the place of integers."""
    if value not in rules:
        return False
    # What is equal to a rule has its form, so only bools can be wrong in it.
    return all([is_integer(source) and is_vector(len(distance), distance) for source, distance in value[1:]])


def reads_of(flow):
    """The ascending tuple of all (plane, operand, source, distance)."""
    reads = []
    for plane, rule in enumerate(flow[1]):
        for operand, (source, distance) in enumerate(rule[1:]):
            reads.append((plane, operand, source, distance))
    return tuple(reads)


def readers_of(flow, plane):
    """The ascending tuple of the planes that read this one."""
    if not is_plane(flow, plane):
        raise NoPlane(plane)
    sources = [[read[0] for read in rule[1:]] for rule in flow[1]]
    return tuple([reader for reader, planes in enumerate(sources) if plane in planes])


def needed(flow, *planes):
    """The ascending tuple of the planes and of all that they depend on."""
    for plane in planes:
        if not is_plane(flow, plane):
            raise NoPlane(plane)
    many = len(flow[1])
    wanted = [plane in planes for plane in range(many)]
    # A way without a plane twice has fewer reads than there are planes, so this many rounds reach all.
    for _ in range(many):
        for read in reads_of(flow):
            if wanted[read[0]]:
                wanted[read[2]] = True
    return tuple([plane for plane in range(many) if wanted[plane]])


def renumbered(rule, by):
    """The rule whose sources are greater by a number."""
    return (rule[0],) + tuple([(source + by, distance) for source, distance in rule[1:]])


def joined(flow, *flows):
    """The flow of all rules, those of one flow behind those of another."""
    for other in flows:
        if other[0] != flow[0]:
            raise OtherDims()
    if len(flow[1]) + sum([len(other[1]) for other in flows]) > MAX_PLANES:
        raise TooMany(MAX_PLANES)
    rules = list(flow[1])
    for other in flows:
        before = len(rules)
        rules.extend([renumbered(rule, before) for rule in other[1]])
    return (flow[0], tuple(rules))
