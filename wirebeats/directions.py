"""Directions, along which all points of a line come onto one processor."""

from math import gcd

from wirebeats.bounds import MAX_DIST
from wirebeats.errors import BadDirection, NoPoint, Same
from wirebeats.vectors import dot, grid, is_bounded, is_far


def common_divisor(vector):
    """The greatest common divisor of the items, 0 if all of them are 0."""
    divisor = 0
    for item in vector:
        divisor = gcd(divisor, item)
    return divisor


def is_direction(dims, value):
    return is_bounded(dims, value, MAX_DIST) and common_divisor(value) == 1


def check_direction(dims, direction):
    """Raise BadDirection if this is no direction for the dimensions."""
    if not is_direction(dims, direction):
        raise BadDirection(direction)


def is_some_direction(value):
    """Whether value is a direction of two or of three dimensions."""
    return is_direction(2, value) or is_direction(3, value)


def directions(dims, most):
    """The ascending tuple of the directions up to a size, one of each two opposite ones."""
    zeros = (0,) * dims
    vectors = grid((-most,) * dims, (most,) * dims)
    return tuple([vector for vector in vectors if vector > zeros and is_direction(dims, vector)])


def period(weights, direction):
    """The number of beats from one point of a line to the next one."""
    check_direction(len(weights), direction)
    return abs(dot(weights, direction))


def between(point, other):
    """The direction that leads from one point to another one, and how often it does."""
    if not (is_far(2, point) or is_far(3, point)):
        raise NoPoint(point)
    if not is_far(len(point), other):
        raise NoPoint(other)
    if point == other:
        raise Same()
    moves = [there - here for here, there in zip(point, other)]
    many = common_divisor(moves)
    direction = tuple([move // many for move in moves])
    if not is_direction(len(direction), direction):
        raise BadDirection(direction)
    return (direction, many)
