"""At which beats of the period the places work."""

from wirebeats.directions import period
from wirebeats.errors import Flat
from wirebeats.places import check_place, check_rows, direction_of, lift_of
from wirebeats.vectors import combined, dot, moved_by


def working_period(weights, direction, rows):
    """The period, which must not be 0, of a direction that fits the rows."""
    every = period(weights, direction)
    check_rows(direction, rows)
    if every == 0:
        raise Flat()
    return every


def remainders(weights, direction, rows):
    """What one step of each item of a place adds to the beats, modulo the period."""
    every = working_period(weights, direction, rows)
    return tuple([dot(weights, vector) % every for vector in lift_of(rows)])


def rhythm_of(weights, rows):
    """A direction of which these are place rows, its period, which is not 0, and its remainders."""
    direction = direction_of(rows)
    return (direction, period(weights, direction), remainders(weights, direction, rows))


def works_at(weights, direction, rows, place, beat):
    """The point with this place and this beat, or None."""
    every = working_period(weights, direction, rows)
    check_place(rows, place)
    point = combined(place, lift_of(rows))
    late = beat - dot(weights, point)
    if late % every != 0:
        return None
    return moved_by(point, late // dot(weights, direction), direction)


def next_beat(weights, direction, rows, place, beat):
    """The least beat from this one on at which the place works."""
    every = working_period(weights, direction, rows)
    check_place(rows, place)
    point = combined(place, lift_of(rows))
    return beat + (dot(weights, point) - beat) % every
