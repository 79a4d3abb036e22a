"""Arrays of processors that all do the same, joined by wires on which words wait."""

from math import gcd

from wirebeats.beats import delays_of
from wirebeats.bounds import MAX_DELAY, MAX_PERIOD, MAX_STEP
from wirebeats.directions import period
from wirebeats.errors import OutOfReach, TooLarge, Unfit
from wirebeats.flows import are_rules, flow_error, has_form, is_flow
from wirebeats.remainders import remainders
from wirebeats.vectors import determinant, dot, image, is_bounded, is_tuple_of, is_within


def are_remainders(every, value):
    """Whether value is one or two remainders for this period."""
    if not is_tuple_of(1, value) and not is_tuple_of(2, value):
        return False
    return all([is_within(rest, 0, every - 1) for rest in value])


def frame_error(value):
    """The word for what is wrong with an array beside its rules themselves, or None."""
    if not is_tuple_of(4, value):
        return "array"
    every, rests, starts, rules = value
    if not is_within(every, 1, MAX_PERIOD):
        return "period"
    if not are_remainders(every, rests):
        return "remainders"
    if not are_rules(rules):
        return "rules"
    if not is_bounded(len(rules), starts, MAX_DELAY):
        return "starts"
    return None


def gain_of(starts, plane, tap):
    """The gain of a tap of this plane."""
    return tap[2] - starts[plane] + starts[tap[0]]


def tap_error(array, plane, value):
    """The word for what is wrong with a tap of this plane, or None."""
    every, rests, starts, rules = array
    if not is_tuple_of(3, value):
        return "tap"
    source, step, delay = value
    if not is_within(source, 0, len(rules) - 1):
        return "source"
    if not is_bounded(len(rests), step, MAX_STEP):
        return "step"
    if not is_within(delay, 1, MAX_DELAY):
        return "delay"
    if (gain_of(starts, plane, value) - dot(rests, step)) % every != 0:
        return "gain"
    return None


def array_error(value):
    """The first reason why value is no array, or None."""
    word = frame_error(value)
    if word is not None:
        return (None, word)
    for plane, rule in enumerate(value[3]):
        if not has_form(rule):
            return (plane, "rule")
        for operand, tap in enumerate(rule[1:]):
            word = tap_error(value, plane, tap)
            if word is not None:
                return ((plane, operand), word)
    return None


def is_array(value):
    return array_error(value) is None


def rule_of_taps(rule, rows, delays):
    """The rule of a flow with taps in the place of its reads."""
    taps = [(read[0], image(rows, read[1]), delay) for read, delay in zip(rule[1:], delays)]
    return (rule[0],) + tuple(taps)


def array_of(flow, beats, direction, rows):
    """The array that does the flow with these beats, along this direction."""
    rests = remainders(beats[0], direction, rows)
    rules = tuple([rule_of_taps(rule, rows, delays) for rule, delays in zip(flow[1], delays_of(flow, beats))])
    steps = [tap[1] for rule in rules for tap in rule[1:]]
    if not all([is_bounded(len(rows), step, MAX_STEP) for step in steps]):
        raise TooLarge(MAX_STEP)
    return (period(beats[0], direction), rests, beats[1], rules)


def gains(array):
    """For each plane, the tuple of the gains of its taps."""
    starts = array[2]
    rows = [[gain_of(starts, plane, tap) for tap in rule[1:]] for plane, rule in enumerate(array[3])]
    return tuple([tuple(row) for row in rows])


def parts_along(steps):
    """Into how many parts places of one item fall by these steps."""
    many = 0
    for step in steps:
        many = gcd(many, step[0])
    return many


def parts_across(steps):
    """Into how many parts places of two items fall by these steps."""
    # All sums of steps so far are just those of (a, b) and (0, c), which have a determinant of a * c.
    a = b = c = 0
    for x, y in steps:
        while x != 0:
            many = a // x
            a, b, x, y = x, y, a - many * x, b - many * y
        c = gcd(c, y)
        # A smaller b does as well and keeps the numbers small.
        b = b % c if c != 0 else b
    return abs(a * c)


def parts(array):
    """Into how many parts the places fall, 0 for endlessly many."""
    steps = [tap[1] for rule in array[3] for tap in rule[1:]]
    return parts_along(steps) if len(array[1]) == 1 else parts_across(steps)


def check_fit(array, rows, weights):
    """Raise Unfit if rows and weights do not fit the array."""
    every, rests, _, _ = array
    if abs(determinant(rows + (weights,))) != every:
        raise Unfit()
    for axis, weight in enumerate(weights):
        if (weight - dot(rests, [row[axis] for row in rows])) % every != 0:
            raise Unfit()


def solved(matrix, values):
    """The vector of integers that a square matrix takes to these values."""
    whole = determinant(matrix)
    items = []
    for axis in range(len(matrix)):
        changed = [row[:axis] + (value,) + row[axis + 1:] for row, value in zip(matrix, values)]
        items.append(determinant(changed) // whole)
    return tuple(items)


def flow_behind(array, rows, weights):
    """The flow that the array does, with vectors that need not be distances."""
    matrix = rows + (weights,)
    rules = []
    for rule, row in zip(array[3], gains(array)):
        reads = [(tap[0], solved(matrix, tap[1] + (gain,))) for tap, gain in zip(rule[1:], row)]
        rules.append((rule[0],) + tuple(reads))
    return (len(weights), tuple(rules))


def read_back(array, rows, weights):
    """The flow that is read back from the array."""
    check_fit(array, rows, weights)
    flow = flow_behind(array, rows, weights)
    error = flow_error(flow)
    if error is not None:
        # All else in it comes from an array, so only a distance can be wrong.
        plane, operand = error[0]
        raise OutOfReach(plane, operand)
    return flow


def flow_holds(array, rows, weights, value):
    """Whether value is the flow that is read back from the array."""
    check_fit(array, rows, weights)
    return is_flow(value) and value == flow_behind(array, rows, weights)
