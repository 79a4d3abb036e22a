"""Promises 15 and 16: beats."""

import random
import unittest

from support import ODD, Case, ask, damaged, dot, is_int, served, some_flow, some_vector

from wirebeats.beats import beat_of, beats_error, delays_of
from wirebeats.errors import NoPlane, NoPoint

F = (2, (("add", (0, (1, 0)), (0, (0, 1))),))
G = (2, (("copy", (1, (0, 0))), ("neg", (0, (1, 0)))))


def some_delays(flow, timing):
    return [[dot(timing[0], read[1]) + timing[1][plane] - timing[1][read[0]] for read in rule[1:]]
            for plane, rule in enumerate(flow[1])]


def reasons(flow, value):
    """All reasons why value is no beats, in the order of the document."""
    if type(value) is not tuple or len(value) != 2:
        yield (None, "beats")
        return
    weights, starts = value
    for items, many, most, whole, word in ((weights, flow[0], 60, "weights", "weight"),
                                           (starts, len(flow[1]), 10000, "starts", "start")):
        if type(items) is not tuple or len(items) != many:
            yield (None, whole)
            return
        for at, item in enumerate(items):
            if not is_int(item) or abs(item) > most:
                yield (at, word)
                return
    for plane, row in enumerate(some_delays(flow, value)):
        for operand, delay in enumerate(row):
            if delay < 1:
                yield ((plane, operand), "delay")


def first_reason(flow, value):
    return next(reasons(flow, value), None)


class BeatsErrors(Case):
    def check(self, flow, value):
        self.same(ask(beats_error, flow, value), first_reason(flow, value), flow, value)

    def test_beats(self):
        rng = random.Random(41)
        for at in range(80):
            flow, timing = served(rng, 2 + at % 2, 1 + at % 4)
            self.same(ask(beats_error, flow, timing), None)

    def test_moved_starts(self):
        rng = random.Random(42)
        wrong = 0
        for at in range(80):
            flow, (weights, starts) = served(rng, 2 + at % 2, 1 + at % 4)
            for plane in range(len(starts)):
                least = min([delay for row in some_delays(flow, (weights, starts)) for delay in row])
                for by in (1, -1, least - 1, least, 1 - least, -least, 70, -70, 2000):
                    value = (weights, starts[:plane] + (starts[plane] + by,) + starts[plane + 1:])
                    self.check(flow, value)
                    wrong += first_reason(flow, value) is not None
        self.assertGreater(wrong, 100)

    def test_timings_that_are_no_beats(self):
        rng = random.Random(43)
        for at in range(200):
            flow = some_flow(rng, 2 + at % 2, 1 + at % 6)
            self.check(flow, (some_vector(rng, flow[0], 60), some_vector(rng, len(flow[1]), 300)))

    def test_damaged_beats(self):
        rng = random.Random(44)
        for at in range(60):
            flow, timing = served(rng, 2 + at % 2, 1 + at % 4)
            for value in damaged(rng, timing, 30):
                self.check(flow, value)

    def test_bounds(self):
        flow = (3, (("neg", (0, (4, 4, 4))), ("copy", (0, (4, 0, 0)))))
        for weights, error in (((60, 60, 60), None), ((61, 60, 60), (0, "weight")), ((60, 60, 61), (2, "weight")),
                               ((60, -61, 0), (1, "weight")), ((-60, 60, 1), ((1, 0), "delay")),
                               ((-60, 60, 0), ((0, 0), "delay")), ((1, -1, -60), ((0, 0), "delay"))):
            self.same(ask(beats_error, flow, (weights, (0, 0))), error)
        for starts, error in (((10000, 10000), None), ((-10000, -10000), None), ((-10000, 10000), None),
                              ((10000, -10000), ((1, 0), "delay")), ((10001, 0), (0, "start")), ((0, -10001), (1, "start")),
                              ((-10001, 10001), (0, "start"))):
            self.same(ask(beats_error, flow, ((60, 60, 60), starts)), error)
        for starts, error in (((0, 0), None), ((3, 0), None), ((4, 0), ((1, 0), "delay"))):
            self.same(ask(beats_error, flow, ((1, 0, 0), starts)), error)

    def test_order(self):
        for value, error in ((((61, 0), (0,)), (0, "weight")), (((0, True), None), (1, "weight")),
                             (((0, 0), None), (None, "starts")), (((0, 0), ()), (None, "starts")),
                             (((0, 0), (0, 0)), (None, "starts")), (((0, 0), [0]), (None, "starts")),
                             (((0, 0), (True,)), (0, "start")), (((0, 0), (False,)), (0, "start")),
                             (((0, 0), (0,)), ((0, 0), "delay")), (((1, 0), (0,)), ((0, 1), "delay")),
                             (([1, 1], None), (None, "weights")), (((1,), (0,)), (None, "weights")),
                             (((1, 1, 1), (0,)), (None, "weights")), ((None, None), (None, "weights")),
                             (((1, 1),), (None, "beats")), (((1, 1), (0,), 0), (None, "beats")),
                             ([(1, 1), (0,)], (None, "beats")), (((1, 1), (0,)), None)):
            self.same(ask(beats_error, F, value), error)
        for value in ODD:
            self.check(F, value)
            self.check(F, ((1, 1), value))
            self.check(F, ((1, value), (0,)))
            self.check(G, ((2, 0), (1, value)))


class Delays(Case):
    def test_delays(self):
        rng = random.Random(45)
        for at in range(200):
            flow = some_flow(rng, 2 + at % 2, 1 + at % 6)
            timing = (some_vector(rng, flow[0], 60), some_vector(rng, len(flow[1]), 10000))
            self.same(ask(delays_of, flow, timing), tuple(tuple(row) for row in some_delays(flow, timing)))
        self.same(ask(delays_of, G, ((2, 0), (0, 0))), ((0,), (2,)))
        self.same(ask(delays_of, G, ((-60, 0), (-10000, 10000))), ((-20000,), (19940,)))


class Beat(Case):
    def test_beats_of_points(self):
        rng = random.Random(46)
        for at in range(200):
            flow = some_flow(rng, 2 + at % 2, 1 + at % 6)
            timing = (some_vector(rng, flow[0], 60), some_vector(rng, len(flow[1]), 10000))
            point = some_vector(rng, flow[0], rng.choice((5, 10 ** 9, 10 ** 39)))
            for plane in range(len(flow[1])):
                expected = dot(timing[0], point) + timing[1][plane]
                self.same(ask(beat_of, flow, timing, plane, point), expected)

    def test_errors(self):
        timing = ((2, 0), (1, 0))
        for plane in ODD + (2, -1, (0,), "1"):
            if not (is_int(plane) and plane in (0, 1)):
                self.raises(NoPlane, {"plane": plane}, beat_of, G, timing, plane, (0, 0))
                self.raises(NoPlane, {"plane": plane}, beat_of, G, timing, plane, None)
        for point in ODD + ((0,), (0, 0, 0), [0, 0], (True, 0), (0, None), ((0,), 0)):
            if type(point) is tuple and len(point) == 2 and all(is_int(item) for item in point):
                continue
            self.raises(NoPoint, {"point": point}, beat_of, G, timing, 1, point)


if __name__ == "__main__":
    unittest.main()
