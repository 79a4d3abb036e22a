"""Runs of arrays, beat by beat, and what waits on their wires."""

from wirebeats.bounds import MODULUS
from wirebeats.boxes import points_of
from wirebeats.directions import period
from wirebeats.errors import Flat
from wirebeats.vectors import dot, image, moved_by


def field_of(box, weights, direction, rows):
    """The field in which an array along the direction does a small box."""
    if period(weights, direction) == 0:
        raise Flat()
    beats = {}
    for point in points_of(box):
        place = image(rows, point)
        if place not in beats:
            beats[place] = []
        beats[place].append(dot(weights, point))
    return tuple([(place, min(beats[place]), len(beats[place])) for place in sorted(beats)])


def feeds_of(outside, beats, rows):
    """The feeds for an outside, one for each entry."""
    weights, starts = beats
    feeds = []
    for plane, vector, word in outside:
        feeds.append((plane, image(rows, vector), dot(weights, vector) + starts[plane], word))
    return tuple(sorted(feeds))


def works_of(array, field):
    """The ascending list of the works of the field, each as (beat, place, plane)."""
    every, _, starts, _ = array
    works = []
    for place, begin, many in field:
        for plane, start in enumerate(starts):
            works.extend([(begin + start + number * every, place, plane) for number in range(many)])
    return sorted(works)


def words_read(array, work):
    """The words that the taps tell at a work, each as (plane, place, beat)."""
    beat, place, plane = work
    return [(source, moved_by(place, -1, step), beat - delay) for source, step, delay in array[3][plane][1:]]


def words_told(told):
    """The words of feeds or of a state, by plane, place and beat."""
    return {(plane, place, beat): word for plane, place, beat, word in told}


def word_made(kind, words):
    """What a rule of this kind makes of the words of its operands."""
    first = words[0]
    last = words[-1]
    if kind == "copy":
        return first
    if kind == "least":
        return min(first, last)
    if kind == "most":
        return max(first, last)
    if kind == "neg":
        number = -first
    elif kind == "add":
        number = first + last
    elif kind == "sub":
        number = first - last
    elif kind == "mul":
        number = first * last
    else:
        number = first + words[1] * last
    return number % MODULUS


def trace_of(array, works, told):
    """The trace of these works, with the words that are told from elsewhere."""
    words = words_told(told)
    trace = []
    for work in works:
        beat, place, plane = work
        operands = [words.get(key, 0) for key in words_read(array, work)]
        word = word_made(array[3][plane][0], operands)
        # Only a later beat reads it, and it goes ahead of a feed for the same beat.
        words[(plane, place, beat)] = word
        trace.append(work + (word,))
    return tuple(trace)


def run(array, field, feeds):
    """The trace: the ascending tuple of (beat, place, plane, word) of all works."""
    return trace_of(array, works_of(array, field), feeds)


def state_at(array, field, feeds, beat):
    """What waits behind a beat for the works of the later ones."""
    words = words_told(feeds)
    for at, place, plane, word in run(array, field, feeds):
        words[(plane, place, at)] = word
    waiting = {}
    for work in works_of(array, field):
        if work[0] > beat:
            for key in words_read(array, work):
                if key[2] <= beat and key in words:
                    waiting[key] = words[key]
    return tuple(sorted([key + (waiting[key],) for key in waiting]))


def go_on(array, field, feeds, state, beat):
    """The part of the trace behind a beat, with the words of a state in the place of all told up to it."""
    works = [work for work in works_of(array, field) if work[0] > beat]
    later = tuple([feed for feed in feeds if feed[2] > beat])
    return trace_of(array, works, state + later)
