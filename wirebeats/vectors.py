"""Checks of integers and vectors, and what is reckoned with them."""

MAX_FAR = 10 ** 30 - 1


def is_integer(value):
    return isinstance(value, int) and not isinstance(value, bool)


def is_within(value, low, high):
    return isinstance(value, int) and not isinstance(value, bool) and low <= value <= high


def is_tuple_of(many, value):
    return isinstance(value, tuple) and len(value) == many


def is_vector(dims, value):
    return is_tuple_of(dims, value) and all([is_integer(item) for item in value])


def is_bounded(dims, value, most):
    """Whether value is a vector with items from -most to most."""
    if not isinstance(value, tuple) or len(value) != dims:
        return False
    for item in value:
        if not is_within(item, -most, most):
            return False
    return True


def is_far(dims, value):
    """Whether value is a vector of integers of at most 30 digits."""
    return is_bounded(dims, value, MAX_FAR)


def dot(one, other):
    total = 0
    for left, right in zip(one, other):
        total += left * right
    return total


def image(matrix, vector):
    """What the matrix makes of the vector."""
    return tuple([dot(row, vector) for row in matrix])


def moved_by(vector, many, other):
    """The vector and so many times the other one."""
    return tuple([left + many * right for left, right in zip(vector, other)])


def combined(counts, vectors):
    """The sum of the vectors, each taken as often as its count says."""
    total = (0,) * len(vectors[0])
    for many, vector in zip(counts, vectors):
        total = moved_by(total, many, vector)
    return total


def times_in(direction, vector):
    """The integer k for which the vector is k * direction, or None; the direction is not all 0."""
    many = [item // move for item, move in zip(vector, direction) if move != 0][0]
    return many if vector == tuple([many * move for move in direction]) else None


def unit_vectors(dims):
    """The vectors with a single item other than 0, which is 1."""
    return tuple([(0,) * at + (1,) + (0,) * (dims - 1 - at) for at in range(dims)])


def determinant(matrix):
    """The determinant of a square matrix of one, two or three rows."""
    first = matrix[0]
    if len(matrix) == 1:
        return first[0]
    if len(matrix) == 2:
        return first[0] * matrix[1][1] - first[1] * matrix[1][0]
    a, b, c = matrix[1]
    d, e, f = matrix[2]
    return first[0] * (b * f - c * e) - first[1] * (a * f - c * d) + first[2] * (a * e - b * d)


def grid(low, high):
    """The ascending list of the vectors whose items are between those of low and high."""
    vectors = [()]
    for first, last in zip(low, high):
        vectors = [vector + (item,) for vector in vectors for item in range(first, last + 1)]
    return vectors


def steps_inside(box, direction, point):
    """The first and the last number k for which point + k * direction is in the box, or None."""
    lows = []
    highs = []
    for size, move, item in zip(box, direction, point):
        if move == 0 and not 0 <= item < size:
            return None
        if move > 0:
            lows.append(-(item // move))
            highs.append((size - 1 - item) // move)
        if move < 0:
            lows.append(-((size - 1 - item) // -move))
            highs.append(item // -move)
    low = max(lows)
    high = min(highs)
    return (low, high) if low <= high else None
