"""How long words wait on the wires, and with which starts they wait least."""

from wirebeats.beats import beats_error, delays_of
from wirebeats.errors import NoStarts
from wirebeats.flows import reads_of
from wirebeats.starts import find_starts, links_of, raised
from wirebeats.vectors import dot, is_integer, is_tuple_of, is_vector


def waiting_of(flow, timing):
    """The sum of the delays of all reads."""
    return sum([sum(row) for row in delays_of(flow, timing)])


def check_served(flow, weights):
    """Raise BadWeights if these are no weights, and NoStarts if they have no starts."""
    word, told = find_starts(flow, weights)
    if word == "ring":
        raise NoStarts(told)


def moves_of_shares(links, shares):
    """The links of all reads, and the opposite ones of those whose share can be less, each with the read's index."""
    moves = []
    for index, (plane, source, rise, _) in enumerate(links):
        moves.append((plane, source, rise, (index, 1)))
        if shares[index] > 0:
            moves.append((source, plane, -rise, (index, -1)))
    return moves


def find_waiting(flow, weights):
    """The least waiting, starts that have it, and shares that show it."""
    check_served(flow, weights)
    links = links_of(flow, weights, 1, 1)
    # Shares of 1 are in balance, and each ring along which more can be had keeps them so. Without such a ring
    # there are starts with which just the reads with a share of 0 have a delay above 1.
    shares = [1 for _ in links]
    starts, ring = raised(len(flow[1]), moves_of_shares(links, shares))
    while ring is not None:
        many = min([shares[index] for _, _, _, (index, more) in ring if more < 0])
        for _, _, _, (index, more) in ring:
            shares[index] = shares[index] + more * many
        starts, ring = raised(len(flow[1]), moves_of_shares(links, shares))
    return (waiting_of(flow, (weights, starts)), starts, by_planes(flow, shares))


def by_planes(flow, shares):
    """For each plane, the tuple of the shares of its reads."""
    rows = []
    at = 0
    for rule in flow[1]:
        rows.append(tuple(shares[at:at + len(rule) - 1]))
        at = at + len(rule) - 1
    return tuple(rows)


def are_shares(flow, value):
    if not is_tuple_of(len(flow[1]), value):
        return False
    for rule, row in zip(flow[1], value):
        if not is_vector(len(rule) - 1, row) or min(row) < 0:
            return False
    balance = [0 for _ in value]
    for plane, operand, source, _ in reads_of(flow):
        balance[plane] += 1 - value[plane][operand]
        balance[source] -= 1 - value[plane][operand]
    return not any(balance)


def sum_of_shares(flow, weights, shares):
    """What the waiting is at least, by these shares."""
    gains = [(dot(weights, distance), shares[plane][operand]) for plane, operand, _, distance in reads_of(flow)]
    return sum([gain + share * (1 - gain) for gain, share in gains])


def waiting_holds(flow, weights, value):
    """Whether value is the least waiting with such starts and shares, whoever made it."""
    check_served(flow, weights)
    if not is_tuple_of(3, value):
        return False
    waiting, starts, shares = value
    if not is_integer(waiting) or beats_error(flow, (weights, starts)) is not None or not are_shares(flow, shares):
        return False
    return waiting_of(flow, (weights, starts)) == waiting == sum_of_shares(flow, weights, shares)
