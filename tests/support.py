"""What the tests share: calls that are watched, odd values, and values with one thing wrong."""

import random
import unittest


def nested(depth):
    value = 0
    for _ in range(depth):
        value = (value,)
    return value


ODD = (
    None, True, False, 0, 1, 2, 3, -1, 5, 7, 10 ** 39, -10 ** 39, "", "copy", "2", "0", "a\nb", "x" * 10000,
    (), [], {}, (0,), (1, 0), [1, 0], (0, 0, 0), {"a": 1}, (None,), (True, False), ("copy",), (True, 0), (0, False),
    ("1", "0"), nested(20), [[], ()], {"a": (1, [2])}, ((0, 0), (0, 0)), ((1, 0), (0, 1)), tuple(range(19000)),
)


def outcome(function, args):
    """The result of a call, or the error that it raises."""
    try:
        return (function(*args), None)
    except ValueError as error:
        return (None, error)


def listed(generator):
    """The function that lists what a generator yields."""
    def run(*args):
        return list(generator(*args))
    run.__name__ = generator.__name__
    return run


def told(error):
    return None if error is None else (error.__class__.__name__, error.__dict__)


def name_of(function):
    return getattr(function, "__name__", "an object")


def ask(function, *args):
    """Call a function twice: both must end alike, and the arguments must stay as they were."""
    before = repr(args)
    result, error = outcome(function, args)
    again, other = outcome(function, args)
    assert repr(args) == before, (name_of(function), before[:200])
    assert repr((again, told(other))) == repr((result, told(error))), (name_of(function), before[:200])
    if error is not None:
        raise error
    return result


class Case(unittest.TestCase):
    def same(self, result, expected, *told_with):
        """Equal, and of the same kinds of values throughout."""
        self.assertEqual(repr(result), repr(expected), told_with)

    def raises(self, error_class, fields, function, *args):
        """The call raises an error of this very class, with these very objects as its fields."""
        with self.assertRaises(error_class) as caught:
            ask(function, *args)
        error = caught.exception
        self.assertIs(error.__class__, error_class)
        self.assertEqual(list(error.__dict__), list(fields), (name_of(function), args))
        for name, value in fields.items():
            if any(value is arg for arg in args):
                self.assertIs(error.__dict__[name], value)
            else:
                self.same(error.__dict__[name], value, name_of(function), args)

    def ends(self, expected, function, *args):
        """The call ends as expected: with ("value", result), or with (error class, fields)."""
        if expected[0] == "value":
            self.same(ask(function, *args), expected[1], name_of(function), args)
        else:
            self.raises(expected[0], expected[1], function, *args)


def variants_of_item(value):
    """Other values in the place of a value that is no tuple."""
    if isinstance(value, bool):
        return [int(value)]
    if isinstance(value, int):
        bools = [bool(value)] if value in (0, 1) else []
        return bools + [value + 1, value - 1, -value, value * 10, str(value), [value], (value,), None]
    if isinstance(value, str):
        return [value.upper(), value + " ", value[:-1], "neg", "add", "madd", [value], 0]
    return []


def variants(value):
    """Values with one thing wrong, or only other, at any depth."""
    found = list(variants_of_item(value))
    if isinstance(value, tuple):
        found += [list(value), value[:-1], value[1:], value + (0,), value + value[-1:], value + (None,), value[::-1]]
        for at, item in enumerate(value):
            found += [value[:at] + (other,) + value[at + 1:] for other in variants(item)]
            found.append(value[:at] + value[at + 1:])
            found.append(value[:at] + (item,) + value[at:])
    return found


def damaged(rng, value, many):
    """So many values with one or two things wrong; odd values in places of any depth, too."""
    found = []
    for _ in range(many):
        first = rng.choice(variants(value))
        found.append(first)
        if isinstance(first, tuple) and len(repr(first)) < 2000:
            found.append(rng.choice(variants(first) or [first]))
        found.append(with_odd(rng, value))
    return found


def with_odd(rng, value):
    """The value with an odd value in one place of it."""
    if not isinstance(value, tuple) or not value or rng.random() < 0.2:
        return rng.choice(ODD)
    at = rng.randrange(len(value))
    return value[:at] + (with_odd(rng, value[at]),) + value[at + 1:]


KINDS = {"copy": 1, "neg": 1, "add": 2, "sub": 2, "mul": 2, "least": 2, "most": 2, "madd": 3}


def some_flow(rng, dims, planes, most=4):
    """A flow with so many planes, with distances up to most."""
    rules = []
    for _ in range(planes):
        kind = rng.choice(sorted(KINDS))
        reads = [(rng.randrange(planes), some_vector(rng, dims, most)) for _ in range(KINDS[kind])]
        rules.append((kind, *reads))
    return (dims, tuple(rules))


def some_vector(rng, dims, most):
    return tuple(rng.randint(-most, most) for _ in range(dims))


def some_flows(seed, many, most_planes=6):
    rng = random.Random(seed)
    return [some_flow(rng, 2 + at % 2, 1 + at % most_planes) for at in range(many)]


def served(rng, dims, planes, weights=None, most=2, late=50):
    """A flow and beats of it: the starts may be of any kind, the distances are such that no delay is below 1."""
    while True:
        flow = some_flow(rng, dims, planes, most)
        timing = (weights or some_vector(rng, dims, 20), tuple(rng.randint(-late, late) for _ in range(planes)))
        rules = []
        for plane, rule in enumerate(flow[1]):
            reads = [forward(timing, plane, read) for read in rule[1:]]
            rules.append((rule[0], *reads))
        if all(read is not None for rule in rules for read in rule[1:]):
            return (dims, tuple(rules)), timing


def forward(timing, plane, read):
    """The read, or the one with the opposite distance, if its delay is at least 1."""
    weights, starts = timing
    for distance in (read[1], tuple(-item for item in read[1])):
        if dot(weights, distance) + starts[plane] - starts[read[0]] >= 1:
            return (read[0], distance)
    return None


def dot(one, other):
    assert len(one) == len(other)
    return sum(left * right for left, right in zip(one, other))


def is_int(value):
    return type(value) is int


def all_vectors(dims, most):
    """All vectors with items from -most to most, ascending."""
    items = range(-most, most + 1)
    if dims == 1:
        return [(item,) for item in items]
    return [(item, *rest) for item in items for rest in all_vectors(dims - 1, most)]


def divisor(items):
    """The greatest number that divides all items, 0 if all are 0: by trial, without the program's own way."""
    top = max(abs(item) for item in items)
    return max((number for number in range(1, top + 1) if all(item % number == 0 for item in items)), default=0)


def all_directions(dims, most=4):
    return [vector for vector in all_vectors(dims, most) if divisor(vector) == 1]


def plane_normals(one, other):
    """The determinants of the three pairs of columns of two rows."""
    return (one[1] * other[2] - one[2] * other[1], one[2] * other[0] - one[0] * other[2],
            one[0] * other[1] - one[1] * other[0])


def are_place_rows(direction, matrix):
    """Whether the matrix is place rows: the minors of such rows are just the direction or its opposite."""
    if len(matrix) == 1:
        minors = (matrix[0][1], -matrix[0][0])
    else:
        minors = plane_normals(*matrix)
    return minors in (tuple(direction), tuple(-item for item in direction))


def some_rows(rng, rows, rounds=4):
    """Other place rows of the same lines."""
    rows = list(rows)
    for _ in range(rounds):
        if len(rows) == 2:
            at = rng.randrange(2)
            many = rng.randint(-2, 2)
            rows[at] = tuple(left + many * right for left, right in zip(rows[at], rows[1 - at]))
            if rng.random() < 0.3:
                rows.reverse()
        if rng.random() < 0.3:
            at = rng.randrange(len(rows))
            rows[at] = tuple(-item for item in rows[at])
    return tuple(rows)
