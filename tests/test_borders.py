"""Promise 48: borders."""

import random
import unittest

from support import ODD, Case, all_directions, all_vectors, ask, is_int, some_flow, some_vector
from test_lines import GREAT, ROOMY, SMALL, go, lines_of, no_points
from test_words import inside, less, read_outside

from wirebeats.borders import count_outside, from_outside
from wirebeats.errors import NoPlane, NoPoint

F = (2, (("add", (0, (1, 0)), (0, (0, 1))),))


def stretches(flags):
    """The stretches of the true ones."""
    found = []
    for index, flag in enumerate(flags):
        if flag and found and sum(found[-1]) == index:
            found[-1] = (found[-1][0], found[-1][1] + 1)
        elif flag:
            found.append((index, 1))
    return tuple(found)


class FromOutside(Case):
    def test_small_boxes(self):
        rng = random.Random(181)
        lengths = set()
        for dims in (2, 3):
            distances = all_vectors(dims, 4)
            for direction in all_directions(dims)[::1 if dims == 2 else 9]:
                box = rng.choice(SMALL[dims] + ((9, 8, 7)[:dims],))
                for line in rng.sample(lines_of(box, direction), min(3, len(lines_of(box, direction)))):
                    for distance in rng.sample(distances, 20) + [(0,) * dims, direction]:
                        expected = stretches([not inside(box, less(point, distance)) for point in line])
                        lengths.add(len(expected))
                        self.same(ask(from_outside, box, direction, rng.choice(line), distance), expected)
        self.assertEqual(lengths, {0, 1, 2})

    def test_all_distances(self):
        for box in ((5, 4), (9, 2), (12, 12)):
            for direction in all_directions(2, 2):
                line = max(lines_of(box, direction), key=len)
                for distance in all_vectors(2, 4):
                    expected = stretches([not inside(box, less(point, distance)) for point in line])
                    self.same(ask(from_outside, box, direction, line[-1], distance), expected)

    def test_great_boxes(self):
        rng = random.Random(182)
        for direction in all_directions(2) + all_directions(3)[::5]:
            for box in ROOMY[len(direction)]:
                point = tuple(rng.choice((0, size - 1, size // 2, rng.randrange(size))) for size in box)
                distance = some_vector(rng, len(box), 4)
                first, many = point, 0
                step = GREAT
                while step:
                    while inside(box, go(first, direction, -step)):
                        first = go(first, direction, -step)
                    step //= 2
                step = GREAT
                while step:
                    while inside(box, go(first, direction, many + step)):
                        many += step
                    step //= 2
                many += 1
                found = ask(from_outside, box, direction, point, distance)
                edges = {0, 1, many - 1, many - 2, many // 2} | {at + k for start, count in found for at in (start, start + count)
                                                                  for k in (-1, 0)}
                for index in edges:
                    if 0 <= index < many:
                        outer = not inside(box, less(go(first, direction, index), distance))
                        self.assertEqual(any(start <= index < start + count for start, count in found), outer)
                self.assertTrue(all(0 <= start and count >= 1 and start + count <= many for start, count in found))
                self.assertTrue(len(found) < 2 or found[0][0] + found[0][1] < found[1][0])
                self.assertLess(len(found), 3)
        box = (GREAT, GREAT)
        self.same(ask(from_outside, box, (1, 1), (5, 5), (3, -2)), ((0, 3), (GREAT - 2, 2)))
        self.same(ask(from_outside, box, (-1, -1), (5, 5), (3, -2)), ((0, 2), (GREAT - 3, 3)))
        self.same(ask(from_outside, box, (1, 0), (7, 0), (0, 1)), ((0, GREAT),))
        self.same(ask(from_outside, box, (1, 0), (7, 1), (0, 1)), ())

    def test_points_that_are_none(self):
        for dims in (2, 3):
            box = (4, 3, 2)[:dims]
            for point in no_points(box):
                self.raises(NoPoint, {"point": point}, from_outside, box, (1, -1, 0)[:dims], point, (1, 0, 0)[:dims])


class CountOutside(Case):
    def by_hand(self, flow, box, plane):
        return sum(source == plane for source, _ in read_outside(flow, box))

    def test_small_boxes(self):
        rng = random.Random(183)
        for at in range(150):
            flow = some_flow(rng, 2 + at % 2, 1 + at % 6, rng.choice((1, 4)))
            box = rng.choice(SMALL[flow[0]])
            for plane in range(len(flow[1])):
                self.same(ask(count_outside, flow, box, plane), self.by_hand(flow, box, plane))

    def test_same_words_and_other_planes(self):
        twice = (2, (("add", (0, (1, 0)), (0, (1, 0))), ("madd", (0, (1, 0)), (1, (0, 1)), (1, (0, 0))), ("copy", (1, (-1, 1)))))
        self.same([ask(count_outside, twice, (4, 3), plane) for plane in range(3)], [3, 7, 0])
        near = (2, (("madd", (0, (1, 0)), (0, (2, 0)), (0, (2, 1))),))
        self.same(ask(count_outside, near, (4, 3), 0), self.by_hand(near, (4, 3), 0))
        self.same(ask(count_outside, F, (4, 4), 0), 8)
        self.same(ask(count_outside, (2, (("copy", (0, (0, 0))),)), (4, 4), 0), 0)

    def test_great_boxes(self):
        full = (2, tuple(("madd", (0, (4, k)), (0, (-4, -k)), (0, (k, -k))) for k in range(6) if k < 5) + F[1])
        self.same(ask(count_outside, F, (GREAT, 1), 0), GREAT + 1)
        self.same(ask(count_outside, F, (GREAT, GREAT), 0), 2 * GREAT)
        deep = (3, (("madd", (0, (1, 0, 0)), (0, (0, 1, 0)), (0, (0, 0, 1))),))
        self.same(ask(count_outside, deep, (GREAT,) * 3, 0), 3 * GREAT ** 2)
        self.same(ask(count_outside, (3, (("neg", (0, (-4, 4, 4))),)), (GREAT,) * 3, 0), GREAT ** 3 - (GREAT - 4) ** 3)
        self.same(ask(count_outside, (3, (("neg", (0, (-4, 4, 4))),)), (GREAT, 3, GREAT), 0), 3 * GREAT ** 2)
        for flow in (full, F):
            # A longer box has as many more such words on each of its long sides.
            sizes = [self.by_hand(flow, (size, 20), 0) for size in (20, 21, 22)]
            self.assertEqual(sizes[2] - sizes[1], sizes[1] - sizes[0])
            self.same(ask(count_outside, flow, (GREAT, 20), 0), sizes[0] + (GREAT - 20) * (sizes[1] - sizes[0]))
        rng = random.Random(184)
        for _ in range(30):
            flow = some_flow(rng, 3, rng.randint(1, 6))
            sizes = [self.by_hand(flow, (size, 9, 10), 0) for size in (9, 10)]
            self.same(ask(count_outside, flow, (GREAT, 9, 10), 0), sizes[0] + (GREAT - 9) * (sizes[1] - sizes[0]))

    def test_planes_that_are_none(self):
        for plane in ODD + (1, -1):
            if not (is_int(plane) and plane == 0):
                self.raises(NoPlane, {"plane": plane}, count_outside, F, (GREAT, 2), plane)


if __name__ == "__main__":
    unittest.main()
