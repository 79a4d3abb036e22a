"""Arrays that are one by a change of places and starts, and arrays as objects."""

from wirebeats.arrays import array_error, array_of, gains, parts, solved
from wirebeats.bounds import MAX_DELAY
from wirebeats.errors import BadArray, BadLags, BadMatrix, Late, NoNumber, NoPlane, Parted
from wirebeats.runs import run
from wirebeats.vectors import combined, determinant, image, is_far, is_integer, is_tuple_of, is_vector, is_within
from wirebeats.vectors import moved_by, unit_vectors


def is_change(width, value):
    """Whether value is the matrix of a change."""
    if not is_tuple_of(width, value) or not all([is_vector(width, row) for row in value]):
        return False
    return abs(determinant(value)) == 1


def rule_behind(array, plane, matrix, lags):
    """The rule of a plane behind a change."""
    rule = array[3][plane]
    taps = [(q, image(matrix, step), delay + lags[plane] - lags[q]) for q, step, delay in rule[1:]]
    return (rule[0],) + tuple(taps)


def array_behind(array, matrix, lags):
    """The array behind a change, which may be beyond the bounds of arrays."""
    every, rests, starts, rules = array
    # The new remainders make of the matrix the old ones.
    columns = list(zip(*matrix))
    rests = tuple([rest % every for rest in solved(columns, rests)])
    planes = range(len(rules))
    return (every, rests, moved_by(starts, 1, lags), tuple([rule_behind(array, k, matrix, lags) for k in planes]))


def moved(array, matrix, lags):
    """The array behind a change."""
    if not is_change(len(array[1]), matrix):
        raise BadMatrix(matrix)
    if not is_vector(len(array[3]), lags):
        raise BadLags(lags)
    other = array_behind(array, matrix, lags)
    for plane, operand, tap in taps_of(other):
        if not 1 <= tap[2] <= MAX_DELAY:
            raise Late(plane, operand)
    check_array(other)
    return other


def check_array(value):
    """Raise BadArray if value is no array."""
    error = array_error(value)
    if error is not None:
        raise BadArray(error)


def taps_of(array):
    """The list of all (plane, operand, tap), in their order."""
    return [(plane, operand, tap) for plane, rule in enumerate(array[3]) for operand, tap in enumerate(rule[1:])]


def steps_of(array):
    return [tap[1] for _, _, tap in taps_of(array)]


def check_whole(one, other):
    """Raise Parted if one of both has not just one part."""
    for array in (one, other):
        many = parts(array)
        if many != 1:
            raise Parted(many)


def form_of(array):
    """The width, the period and, for each plane, its kind and its sources."""
    rules = [(rule[0],) + tuple([tap[0] for tap in rule[1:]]) for rule in array[3]]
    return (len(array[1]), array[0], tuple(rules))


def spanning(steps, width):
    """The indexes of as many steps as a place has items, with a determinant other than 0."""
    first = 0
    while not any(steps[first]):
        first += 1
    if width == 1:
        return (first,)
    second = first + 1
    while determinant((steps[first], steps[second])) == 0:
        second += 1
    return (first, second)


def counts_of(basis, step):
    """How often each step of a basis is in the step that is as many times as great as their determinant."""
    return tuple([determinant(basis[:at] + (step,) + basis[at + 1:]) for at in range(len(basis))])


def relation(many, chosen, at, whole, counts):
    """The counts, one for each of so many steps, that say how the one at this index comes of the chosen ones."""
    found = [0 for _ in range(many)]
    for index, count in zip(chosen, counts):
        found[index] = -count
    found[at] = found[at] + whole
    return tuple(found)


def is_relation(steps, counts):
    return not any(combined(counts, steps))


def find_change(one, other):
    """The change that makes the other array of the first one, or evidence that there is none."""
    check_whole(one, other)
    if form_of(one) != form_of(other):
        return ("form",)
    for plane, (row, told) in enumerate(zip(gains(one), gains(other))):
        for operand, gain in enumerate(row):
            if gain != told[operand]:
                return ("gain", plane, operand)
    return step_change(one, other)


def step_change(one, other):
    """The change of an array into one of the same form and gains, or steps that bar it."""
    steps = steps_of(one)
    others = steps_of(other)
    width = len(one[1])
    chosen = spanning(steps, width)
    old = tuple([steps[at] for at in chosen])
    new = tuple([others[at] for at in chosen])
    whole = determinant(old)
    for at, step in enumerate(steps):
        counts = counts_of(old, step)
        if combined(counts, new) != tuple([whole * item for item in others[at]]):
            return ("steps", relation(len(steps), chosen, at, whole, counts))
    # Now a matrix that moves the chosen steps moves all, and as both have one part it leads there and back.
    matrix = tuple([solved(old, [step[axis] for step in new]) for axis in range(width)])
    return ("change", matrix, moved_by(other[2], -1, one[2]))


def is_gain(one, other, plane, operand):
    """Whether this tells a tap whose gains are unlike in two arrays of one form."""
    if not is_within(plane, 0, len(one[3]) - 1) or not is_within(operand, 0, len(one[3][plane]) - 2):
        return False
    return form_of(one) == form_of(other) and gains(one)[plane][operand] != gains(other)[plane][operand]


def is_difference(one, other, counts):
    """Whether the counts are a relation of the steps in just one of two arrays of one form."""
    steps = steps_of(one)
    if not is_far(len(steps), counts) or form_of(one) != form_of(other):
        return False
    return is_relation(steps, counts) != is_relation(steps_of(other), counts)


def leads(one, other, matrix, lags):
    """Whether this is a change that makes the other array of the first one."""
    if not is_change(len(one[1]), matrix) or not is_vector(len(one[3]), lags):
        return False
    # Most wrong changes have wrong lags, and these are compared at once.
    return moved_by(one[2], 1, lags) == other[2] and array_behind(one, matrix, lags) == other


def change_holds(one, other, value):
    """Whether value is right evidence, whoever made it."""
    check_whole(one, other)
    if not isinstance(value, tuple) or not value:
        return False
    word = value[0]
    if word == "change":
        return len(value) == 3 and leads(one, other, value[1], value[2])
    if word == "form":
        return len(value) == 1 and form_of(one) != form_of(other)
    if word == "gain":
        return len(value) == 3 and is_gain(one, other, value[1], value[2])
    return word == "steps" and len(value) == 2 and is_difference(one, other, value[1])


def scaled_rule(rule, number):
    """The rule with delays that are so many times as great."""
    return (rule[0],) + tuple([(source, step, delay * number) for source, step, delay in rule[1:]])


class Array:
    """An array as an object, which never changes."""

    def __init__(self, value):
        check_array(value)
        self.value = value
        self.width = len(value[1])
        self.rules = value[3]
        self.parts = parts(value)

    @classmethod
    def of(cls, flow, beats, direction, rows):
        return cls(array_of(flow, beats, direction, rows))

    @property
    def period(self):
        return self.value[0]

    def __getitem__(self, plane):
        if not is_within(plane, 0, len(self.rules) - 1):
            raise NoPlane(plane)
        return self.rules[plane]

    def __iter__(self):
        raise TypeError("an Array is not looped over")

    def __call__(self, field, feeds):
        """The trace of a run."""
        return run(self.value, field, feeds)

    def __floordiv__(self, matrix):
        return Array(moved(self.value, matrix, (0,) * len(self.rules)))

    def __rshift__(self, lags):
        return Array(moved(self.value, unit_vectors(self.width), lags))

    def __mul__(self, number):
        if not is_integer(number) or number < 1:
            raise NoNumber(number)
        every, rests, starts, rules = self.value
        rests = tuple([rest * number for rest in rests])
        starts = tuple([start * number for start in starts])
        return Array((every * number, rests, starts, tuple([scaled_rule(rule, number) for rule in rules])))

    def __len__(self):
        return len(self.rules)

    def __str__(self):
        return f"{len(self.rules)} planes, width {self.width}, period {self.period}, {self.parts} parts"

    def __eq__(self, other):
        return isinstance(other, Array) and self.value == other.value
