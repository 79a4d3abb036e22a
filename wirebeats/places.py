"""Place rows, which tell the lines of a direction by their places."""

from math import gcd

from wirebeats.directions import check_direction, is_some_direction
from wirebeats.errors import BadDirection, NoPlace, NoPoint, Unlike
from wirebeats.vectors import combined, determinant, dot, image, is_far, is_integer, is_tuple_of, is_vector
from wirebeats.vectors import is_within, moved_by, steps_inside, unit_vectors


def turned_up(row):
    """The row or its opposite, whichever has a first item other than 0 that is greater than 0."""
    return row if row > (0,) * len(row) else tuple([-item for item in row])


def flat_rows(direction):
    """The canonical place rows of a direction of two dimensions."""
    return (turned_up((direction[1], -direction[0])),)


def first_row(direction, divisor, most):
    """The row (divisor, y, z) that takes the direction to 0, with y from 0 to less than most.

    If the last item of the direction is 0, z is 0 and most makes no difference.
    """
    a, b, c = direction
    if c == 0:
        return (divisor, -a * divisor // b, 0)
    y = [item for item in range(most) if (a * divisor + b * item) % c == 0][0]
    return (divisor, y, -(a * divisor + b * y) // c)


def deep_rows(direction):
    """The canonical place rows of a direction of three dimensions."""
    _, b, c = direction
    divisor = gcd(b, c)
    if divisor == 0:
        return ((0, 1, 0), (0, 0, 1))
    second = turned_up((0, c // divisor, -b // divisor))
    return (first_row(direction, divisor, second[1]), second)


def canonical_rows(direction):
    if not is_some_direction(direction):
        raise BadDirection(direction)
    return flat_rows(direction) if len(direction) == 2 else deep_rows(direction)


def direction_of(rows):
    """One of the two opposite directions of which these are place rows."""
    if len(rows) == 1:
        return (rows[0][1], -rows[0][0])
    (a, b, c), (d, e, f) = rows
    return (b * f - c * e, c * d - a * f, a * e - b * d)


def check_rows(direction, matrix):
    """Raise BadDirection if this is no direction for so many rows."""
    if not is_some_direction(direction) or len(matrix) != len(direction) - 1:
        raise BadDirection(direction)


def stepped(matrix):
    """Tuples (image, vector), both in one: a basis of the grid, and what the matrix makes of it.

    Item k of an image is 0 in all tuples behind the one with the index k: its *pivot* stands there.
    """
    width = len(matrix)
    basis = [image(matrix, unit) + unit for unit in unit_vectors(width + 1)]
    for at in range(width):
        for other in range(at + 1, width + 1):
            while basis[other][at] != 0:
                many = basis[at][at] // basis[other][at]
                rest = moved_by(basis[at], -many, basis[other])
                basis[at] = basis[other]
                basis[other] = rest
    return tuple(basis)


def lift_of(rows):
    """A lift for place rows: vectors that they take to (1, 0) and (0, 1), or to (1,)."""
    width = len(rows)
    basis = stepped(rows)
    lifts = []
    for at in reversed(range(width)):
        # For place rows each pivot is 1 or -1, so this makes it 1.
        lift = tuple([basis[at][at] * item for item in basis[at]])
        for behind, other in enumerate(lifts, start=at + 1):
            lift = moved_by(lift, -lift[behind], other)
        lifts = [lift] + lifts
    return tuple([lift[width:] for lift in lifts])


def missed_by(matrix):
    """Counts and a number m that show that the matrix misses a tuple, or None if it misses none."""
    basis = stepped(matrix)
    pivots = [abs(basis[at][at]) for at in range(len(matrix))]
    if pivots[0] != 1:
        return ((1,) + (0,) * (len(matrix) - 1), pivots[0])
    if pivots[-1] != 1:
        # The first count clears what the last row makes of the first vector of the basis.
        return ((-basis[0][0] * basis[0][1], 1), pivots[-1])
    return None


def rows_certificate(direction, matrix):
    """Evidence that the matrix is place rows of the direction, or that it is not."""
    check_rows(direction, matrix)
    for index, row in enumerate(matrix):
        if dot(row, direction) != 0:
            return ("moved", index)
    missed = missed_by(matrix)
    if missed is not None:
        return ("missed",) + missed
    return ("lift", lift_of(matrix))


def is_moved(direction, matrix, value):
    return is_within(value, 0, len(matrix) - 1) and dot(matrix[value], direction) != 0


def are_vectors(many, value):
    """Whether value is a tuple of so many vectors with one item more."""
    return is_tuple_of(many, value) and all([is_vector(many + 1, vector) for vector in value])


def is_lift(matrix, value):
    width = len(matrix)
    if not are_vectors(width, value):
        return False
    return tuple([image(matrix, vector) for vector in value]) == unit_vectors(width)


def is_multiple(number, many):
    """Whether number is so many times an integer."""
    return number == 0 if many == 0 else number % many == 0


def is_missed(matrix, counts, many):
    if not is_vector(len(matrix), counts) or not is_integer(many) or many < 0 or many == 1:
        return False
    if all([is_multiple(count, many) for count in counts]):
        return False
    return all([is_multiple(item, many) for item in combined(counts, matrix)])


def rows_certificate_holds(direction, matrix, value):
    """Whether value is right evidence, whoever made it."""
    check_rows(direction, matrix)
    if is_tuple_of(3, value):
        return value[0] == "missed" and is_missed(matrix, value[1], value[2])
    if not is_tuple_of(2, value):
        return False
    if value[0] == "moved":
        return is_moved(direction, matrix, value[1])
    stays = all([dot(row, direction) == 0 for row in matrix])
    return value[0] == "lift" and stays and is_lift(matrix, value[1])


def place_of(rows, point):
    """The place of the line on which a far point is."""
    if not is_far(len(rows) + 1, point):
        raise NoPoint(point)
    return image(rows, point)


def check_place(rows, place):
    """Raise NoPlace if this is no place for the rows."""
    if not is_far(len(rows), place):
        raise NoPlace(place)


def first_at(box, direction, rows, place):
    """The first point, in the box, of the line with this place, or None."""
    check_direction(len(box), direction)
    check_rows(direction, rows)
    check_place(rows, place)
    point = combined(place, lift_of(rows))
    steps = steps_inside(box, direction, point)
    return None if steps is None else moved_by(point, steps[0], direction)


def change_of(rows, other):
    """The rows that lead from place rows to others of the same lines."""
    if not are_vectors(len(rows), other):
        raise Unlike()
    lift = lift_of(rows)
    change = tuple([tuple([dot(row, vector) for vector in lift]) for row in other])
    same = tuple([combined(counts, rows) for counts in change]) == other
    if not same or abs(determinant(change)) != 1:
        raise Unlike()
    return change
