"""Promises 29 and 30: how many lines and how many points."""

import itertools
import random
import unittest

from support import ODD, Case, all_directions, ask, dot, is_int, some_vector
from test_lines import SMALL, lines_of, no_directions
from test_words import points

from wirebeats.counts import count_at, count_lines, count_long, fewest_lines, longest_line
from wirebeats.errors import BadDirection, NoCount

GREAT = 10 ** 9


def some_directions(dims, most=4):
    return [vector for vector in all_directions(dims, most) if vector > (0,) * dims]


class Lines(Case):
    def test_small_boxes(self):
        for dims in (2, 3):
            for direction in all_directions(dims)[::1 if dims == 2 else 4]:
                for box in SMALL[dims]:
                    lengths = [len(line) for line in lines_of(box, direction)]
                    self.same(ask(count_lines, box, direction), len(lengths))
                    self.same(ask(longest_line, box, direction), max(lengths))
                    for many in (1, 2, 3, max(lengths), max(lengths) + 1, 10 ** 39):
                        self.same(ask(count_long, box, direction, many), sum(length >= many for length in lengths))

    def test_great_boxes(self):
        for box, direction, many, longest in (((GREAT, GREAT), (1, 1), 2 * GREAT - 1, GREAT),
                                              ((GREAT, GREAT), (0, -1), GREAT, GREAT), ((GREAT, 1), (0, 1), GREAT, 1),
                                              ((GREAT, 1), (1, 0), 1, GREAT), ((GREAT, GREAT), (3, -4), 7 * GREAT - 12, GREAT // 4),
                                              ((GREAT,) * 3, (0, 0, 1), GREAT ** 2, GREAT), ((3, 3, GREAT), (4, 0, 1), 9 * GREAT, 1),
                                              ((GREAT,) * 3, (-1, 1, 1), GREAT ** 3 - (GREAT - 1) ** 3, GREAT),
                                              ((1, 1), (1, 0), 1, 1),
                                              ((GREAT, GREAT, 5), (0, -3, 4), 5 * GREAT ** 2 - GREAT * (GREAT - 3), 2)):
            self.same(ask(count_lines, box, direction), many)
            self.same(ask(longest_line, box, direction), longest)
            self.same(ask(count_long, box, direction, 1), many)
            self.assertGreater(ask(count_long, box, direction, longest), 0)
            self.same(ask(count_long, box, direction, longest + 1), 0)
            opposite = tuple(-move for move in direction)
            self.same(ask(count_lines, box, opposite), many)
            self.same(ask(longest_line, box, opposite), longest)
        # Two lines of each length below the greatest one.
        self.same(ask(count_long, (GREAT, GREAT), (1, 1), GREAT), 1)
        self.same(ask(count_long, (GREAT, GREAT), (1, -1), GREAT - 1), 3)
        self.same(ask(count_long, (GREAT, GREAT), (1, 1), GREAT - 1000), 2001)
        self.same(ask(count_long, (GREAT, GREAT), (1, 1), 5), 2 * GREAT - 9)

    def test_errors(self):
        for dims in (2, 3):
            box = (4, 3, 2)[:dims]
            for direction in no_directions(dims):
                self.raises(BadDirection, {"direction": direction}, count_lines, box, direction)
                self.raises(BadDirection, {"direction": direction}, longest_line, box, direction)
                self.raises(BadDirection, {"direction": direction}, count_long, box, direction, 1)
                self.raises(BadDirection, {"direction": direction}, count_long, box, direction, None)
            for many in ODD + (0, -1, True, False, "1", (1,), -10 ** 39):
                if not (is_int(many) and many >= 1):
                    self.raises(NoCount, {"many": many}, count_long, box, (1, -1, 0)[:dims], many)


class Fewest(Case):
    def test_against_all_directions(self):
        rng = random.Random(161)
        none = 0
        for at in range(120):
            dims = 2 + at % 2
            box = rng.choice(SMALL[dims])
            weights = rng.choice((some_vector(rng, dims, 2), some_vector(rng, dims, 60), (0,) * (dims - 1) + (1,), (0,) * dims))
            most = rng.choice((1, 2)) if at % 5 else rng.choice((3, 4) if dims == 2 else (1,))
            found = [(len(lines_of(box, direction)), direction) for direction in some_directions(dims, most)
                     if dot(weights, direction) != 0]
            least = min((number for number, _ in found), default=None)
            expected = next((told for told in found if told[0] == least), None)
            none += expected is None
            self.same(ask(fewest_lines, box, weights, most), expected)
        self.assertGreater(none, 5)

    def test_periods_of_0(self):
        self.same(ask(fewest_lines, (5, 5), (1, 1), 1), (5, (0, 1)))
        self.same(ask(fewest_lines, (5, 5), (1, 0), 1), (5, (1, 0)))
        self.same(ask(fewest_lines, (5, 5), (0, -60), 4), (5, (0, 1)))
        self.same(ask(fewest_lines, (3, 5), (0, 1), 1), (3, (0, 1)))
        self.same(ask(fewest_lines, (3, 5), (1, 0), 1), (5, (1, 0)))
        self.assertIsNone(ask(fewest_lines, (3, 5), (0, 0), 4))
        self.assertIsNone(ask(fewest_lines, (3, 5, 2), (0, 0, 0), 4))
        self.same(ask(fewest_lines, (1, 1, 1), (0, 0, 7), 4), (1, (0, 0, 1)))

    def test_great_boxes(self):
        self.same(ask(fewest_lines, (GREAT, GREAT - 1), (1, 1), 4), (GREAT - 1, (1, 0)))
        self.same(ask(fewest_lines, (GREAT, GREAT, 2), (0, 0, 1), 1), (GREAT ** 2, (0, 0, 1)))
        self.same(ask(fewest_lines, (GREAT, GREAT, 2), (1, -1, 0), 1), (2 * GREAT, (0, 1, 0)))
        self.same(ask(fewest_lines, (2, GREAT, GREAT), (0, 1, -1), 4), (2 * GREAT, (0, 0, 1)))
        self.same(ask(fewest_lines, (GREAT, 2, GREAT), (60, 0, 0), 4), (2 * GREAT, (1, 0, 0)))


def by_rows(box, weights, beat):
    """How many points have the beat: for each item of the first axis or axes, whether the last one fits."""
    if weights[-1] == 0:
        return box[-1] * sum(dot(weights[:-1], point) == beat for point in points(box[:-1]))
    found = 0
    for point in points(box[:-1]):
        item, rest = divmod(beat - dot(weights[:-1], point), weights[-1])
        found += rest == 0 and 0 <= item < box[-1]
    return found


class CountAt(Case):
    def test_small_boxes(self):
        rng = random.Random(162)
        for at in range(160):
            dims = 2 + at % 2
            box = rng.choice(SMALL[dims])
            weights = some_vector(rng, dims, rng.choice((1, 2, 6, 60)))
            beats = [dot(weights, point) for point in points(box)]
            for beat in sorted(set(beats)) + [min(beats) - 1, max(beats) + 1, 0, 10 ** 30 - 1, 1 - 10 ** 30]:
                self.same(ask(count_at, box, weights, beat), beats.count(beat), box, weights, beat)
            self.assertEqual(sum(count_at(box, weights, beat) for beat in range(min(beats), max(beats) + 1)), len(beats))

    def test_one_long_axis(self):
        rng = random.Random(163)
        counts = []
        for at in range(300):
            dims = 2 + at % 2
            box = (rng.randint(1, 30),) * (dims - 1) + (rng.choice((GREAT, 1000, 10 ** 6 + 1)),)
            weights = some_vector(rng, dims, rng.choice((3, 12, 60)))
            point = tuple(rng.randrange(size) for size in box)
            beat = dot(weights, point) + rng.choice((0, 0, 1, 2))
            counts.append(by_rows(box, weights, beat))
            order = rng.sample(range(dims), dims)
            self.same(ask(count_at, tuple(box[k] for k in order), tuple(weights[k] for k in order), beat), counts[-1], box, weights)
        self.assertGreater(sum(map(bool, counts)), 150)
        self.assertGreater(counts.count(0), 20)

    def test_two_great_axes(self):
        box = (GREAT, GREAT)
        for weights, beat, many in (((1, 1), 0, 1), ((1, 1), GREAT - 1, GREAT), ((1, 1), 2 * GREAT - 2, 1), ((1, 1), 2 * GREAT - 1, 0),
                                    ((1, -1), 0, GREAT), ((-1, 1), 5, GREAT - 5), ((2, -4), 3, 0), ((2, -4), 0, GREAT // 2),
                                    ((0, 7), 7 * GREAT - 7, GREAT), ((0, 7), 7 * GREAT, 0), ((0, 7), 13, 0), ((-3, 0), -9, GREAT),
                                    ((-3, 0), 9, 0), ((0, 0), 0, GREAT ** 2), ((0, 0), 1, 0), ((60, 60), 60 * GREAT, GREAT - 1),
                                    ((60, 59), 0, 1), ((60, -60), 60, GREAT - 1), ((6, 10), 1, 0), ((6, 10), 16, 1), ((6, 10), 30, 2),
                                    ((2, 3), GREAT, 166666667), ((-2, -3), -GREAT, 166666667), ((1, 1), 10 ** 29, 0)):
            self.same(ask(count_at, box, weights, beat), many, weights, beat)
            self.same(ask(count_at, box, weights[::-1], beat), many, weights, beat)

    def test_great_boxes_of_three_dimensions(self):
        for least in (1, 3, 1000):
            for axis in range(3):
                box = tuple(least if at == axis else GREAT for at in range(3))

                def order(weights):
                    rest = list(weights[1:])
                    return tuple(weights[0] if at == axis else rest.pop(0) for at in range(3))
                for weights, beat, many in (((0, 1, 1), GREAT - 1, least * GREAT), ((1, 1, -1), 0, sum(GREAT - k for k in range(least))),
                                            ((0, 0, 0), 0, least * GREAT ** 2), ((0, 0, 0), 5, 0), ((1, 0, 0), 0, GREAT ** 2),
                                            ((1, 0, 0), least, 0), ((0, 0, 2), 8, least * GREAT), ((0, 0, 2), 9, 0),
                                            ((1, 2, 4), 1, int(least > 1)),
                                            ((-60, 60, 60), 60, sum(k + 2 for k in range(least)))):
                    self.same(ask(count_at, box, order(weights), beat), many, box, weights, beat)

    def test_all_points_are_counted(self):
        rng = random.Random(164)
        for at in range(30):
            box = tuple(rng.randint(1, 12) for _ in range(2 + at % 2))
            weights = some_vector(rng, 2 + at % 2, 5)
            beats = [dot(weights, point) for point in itertools.product(*map(range, box))]
            told = [ask(count_at, box, weights, beat) for beat in range(min(beats), max(beats) + 1)]
            self.assertEqual(told, [beats.count(beat) for beat in range(min(beats), max(beats) + 1)])


if __name__ == "__main__":
    unittest.main()
