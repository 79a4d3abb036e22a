"""Jobs, which do a box each, and whether they meet."""

from math import gcd

from wirebeats.boxes import is_point
from wirebeats.counts import greatest_step
from wirebeats.errors import Flat
from wirebeats.vectors import dot, is_tuple_of, is_vector, moved_by, steps_inside


def rise_of(weights, direction):
    """The beats from one point of a line to the next one, which must not be 0."""
    rise = dot(weights, direction)
    if rise == 0:
        raise Flat()
    return rise


def meeting_steps(direction, one, other):
    """The first and the last number of steps from some vector of one to some vector of other, or None."""
    sizes = [left + right - 1 for left, right in zip(one[1], other[1])]
    point = [here + size - 1 - there for here, size, there in zip(one[0], one[1], other[0])]
    return steps_inside(sizes, direction, point)


def steps_of_meeting(rise, direction, one, other):
    """The number of steps from a vector of one to a vector of other that is done at its beat, or None."""
    late = one[2] - other[2]
    steps = meeting_steps(direction, one, other)
    if late % rise != 0 or steps is None or not steps[0] <= late // rise <= steps[1]:
        return None
    return late // rise


def meeting(weights, direction, one, other):
    """Two vectors, of one and of other, by which the jobs meet, or None."""
    many = steps_of_meeting(rise_of(weights, direction), direction, one, other)
    if many is None:
        return None
    least = moved_by(one[0], many, direction)
    vector = tuple([max(left, right) for left, right in zip(least, other[0])])
    return (moved_by(vector, -many, direction), vector)


def is_vector_of(job, value):
    """Whether value is a vector that the job does."""
    corner, box, _ = job
    return is_vector(len(box), value) and is_point(box, moved_by(value, -1, corner))


def meeting_holds(weights, direction, one, other, value):
    """Whether value is None or two such vectors, and right, whoever made it."""
    rise = rise_of(weights, direction)
    many = steps_of_meeting(rise, direction, one, other)
    if many is None or value is None:
        return many is None and value is None
    if not is_tuple_of(2, value) or not is_vector_of(one, value[0]) or not is_vector_of(other, value[1]):
        return False
    return moved_by(value[0], many, direction) == value[1]


def gap_serves(weights, direction, box, gap, many):
    """Whether no two of so many jobs, or of endlessly many, begun every gap beats, meet."""
    every = abs(rise_of(weights, direction))
    divisor = gcd(every, gap)
    # Only jobs with this many gaps between them, or some times as many, work at one beat on one line,
    # with gap // divisor steps between their vectors, or some times as many.
    apart = every // divisor
    if many is not None and many <= apart:
        return True
    return gap // divisor > greatest_step(box, direction)


def next_gap(weights, direction, box, number):
    """The least gap from number on that serves for endlessly many jobs."""
    rise_of(weights, direction)
    # No gap up to the greatest step serves, and behind it each that shares no divisor with the period does.
    gap = max(number, greatest_step(box, direction) + 1)
    while not gap_serves(weights, direction, box, gap, None):
        gap += 1
    return gap


def barred_begins(rise, direction, mine, job):
    """The first and the last begin, a period apart from one to the next, with which mine meets the job, or None."""
    steps = meeting_steps(direction, mine, job)
    if steps is None:
        return None
    begins = [job[2] + many * rise for many in steps]
    return (min(begins), max(begins))


def free_from(every, barred, begin):
    """The least begin, some periods behind this one or none, that is in no barred stretch."""
    found = begin
    is_free = False
    while not is_free:
        is_free = True
        for first, last in barred:
            if first <= found <= last and (found - first) % every == 0:
                found = last + every
                is_free = False
    return found


def free_begin(weights, direction, corner, box, jobs, begin):
    """The least begin from this one on with which a job meets none of the jobs."""
    rise = rise_of(weights, direction)
    every = abs(rise)
    stretches = [barred_begins(rise, direction, (corner, box, begin), job) for job in jobs]
    barred = [stretch for stretch in stretches if stretch is not None]
    return min([free_from(every, barred, begin + late) for late in range(every)])
