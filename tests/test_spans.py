"""Promise 20: spans of boxes."""

import itertools
import random
import unittest

from support import ODD, Case, ask, dot, is_int, some_flow, some_vector
from test_words import points

from wirebeats.errors import NoPlane
from wirebeats.spans import span_of

GREAT = 10 ** 9
H = (2, (("copy", (0, (0, 1))), ("copy", (1, (1, 0))), ("madd", (2, (1, 1)), (0, (0, 0)), (1, (0, 0)))))


class Spans(Case):
    def check(self, flow, timing, box, planes, corners):
        asked = planes or range(len(flow[1]))
        beats = [dot(timing[0], corner) + timing[1][plane] for corner in corners for plane in asked]
        expected = (min(beats), max(beats), max(beats) - min(beats) + 1)
        self.same(ask(span_of, flow, timing, box, *planes), expected, flow, timing, box, planes)

    def some_timings(self, seed, many):
        rng = random.Random(seed)
        for at in range(many):
            dims, planes = 2 + at % 2, 1 + at % 6
            flow = some_flow(rng, dims, planes)
            weights = tuple(rng.choice((0, item)) for item in some_vector(rng, dims, 60))
            timing = (weights, some_vector(rng, planes, rng.choice((0, 5, 10000))))
            named = tuple(rng.randrange(planes) for _ in range(rng.choice((0, 1, 2, 5))))
            yield rng, flow, timing, named

    def test_small_boxes_by_all_points(self):
        for rng, flow, timing, planes in self.some_timings(261, 200):
            box = tuple(rng.randint(1, 5) for _ in range(flow[0]))
            self.check(flow, timing, box, planes, points(box))

    def test_great_boxes_by_all_corners(self):
        for rng, flow, timing, planes in self.some_timings(262, 200):
            box = tuple(rng.choice((1, 2, GREAT, rng.randint(1, GREAT))) for _ in range(flow[0]))
            self.check(flow, timing, box, planes, list(itertools.product(*[(0, size - 1) for size in box])))
        timing = ((1, 1), (0, 0, 1))
        self.same([span_of(H, timing, (3, 4)), span_of(H, timing, (GREAT, 4), 2)], [(0, 6, 7), (1, 1000000003, 1000000003)])
        self.same(span_of(H, timing, (1, 1), 0, 0, 1, 0), (0, 0, 1))
        self.same(span_of(H, ((-60, 60), (9, -10000, 10000)), (GREAT, GREAT)), (-60 * (GREAT - 1) - 10000, 60 * (GREAT - 1) + 10000, 120 * (GREAT - 1) + 20001))

    def test_planes_that_are_none(self):
        timing = ((1, 1), (0, 0, 1))
        for plane in ODD + (-1, 3):
            if is_int(plane) and plane in (0, 1, 2):
                continue
            for planes in ((plane,), (0, 2, plane), (plane, 9), (1, plane, None)):
                self.raises(NoPlane, {"plane": plane}, span_of, H, timing, (3, 4), *planes)


if __name__ == "__main__":
    unittest.main()
