"""Promises 27 and 28: lines."""

import itertools
import random
import unittest

from support import ODD, Case, all_directions, ask, is_int, listed, some_vector
from test_words import inside, points

from wirebeats.errors import BadDirection, NoIndex, NoPoint
from wirebeats.lines import each_line, line_at, line_index, line_through, steps_between

GREAT = 10 ** 9
FAR = 10 ** 30 - 1
SMALL = {2: ((1, 1), (3, 2), (4, 3), (1, 6), (9, 2), (5, 5)), 3: ((1, 1, 1), (2, 3, 2), (4, 1, 3), (3, 3, 3), (5, 2, 4))}
ROOMY = {2: ((GREAT, GREAT), (GREAT, 1), (2, GREAT), (GREAT, 7)), 3: ((GREAT,) * 3, (GREAT, 1, GREAT), (3, GREAT, 2), (5, 6, GREAT))}
all_lines = listed(each_line)


def go(point, direction, many):
    return tuple(item + many * move for item, move in zip(point, direction))


def lines_of(box, direction):
    """All lines that meet a small box, each as the list of its points, ascending by first points."""
    lines = []
    for first in points(box):
        if not inside(box, go(first, direction, -1)):
            line = [first]
            while inside(box, go(line[-1], direction, 1)):
                line.append(go(line[-1], direction, 1))
            lines.append(line)
    return lines


def no_directions(dims):
    values = [value for value in ODD if not (type(value) is tuple and len(value) == dims and all(map(is_int, value)))]
    good = (1, 2, 3)[:dims]
    return values + [(0,) * dims, (2,) * dims, (4, 2, 0)[:dims], (5, 1, 1)[:dims], (-5, 1, 1)[:dims], (1, 5, 0)[:dims], list(good),
                     (True,) + good[1:], good[:-1] + (False,), good[:-1], good + (1,), good[:-1] + (None,), (10 ** 39,) + good[1:]]


def no_points(box):
    far = [(-1,) + (0,) * (len(box) - 1), box, tuple(size - 1 for size in box[:-1]) + box[-1:], (0,) * (len(box) - 1) + (-1,)]
    values = far + [(0,) * (len(box) - 1), (0,) * (len(box) + 1), [0] * len(box), (False,) + (0,) * (len(box) - 1),
                    (0,) * (len(box) - 1) + (True,), (None,) * len(box), (10 ** 39,) * len(box), ("0",) * len(box)]
    return values + [v for v in ODD if not (type(v) is tuple and len(v) == len(box) and all(map(is_int, v)) and inside(box, v))]


class Through(Case):
    def test_small_boxes(self):
        for dims in (2, 3):
            for direction in all_directions(dims)[::1 if dims == 2 else 5]:
                for box in SMALL[dims]:
                    for line in lines_of(box, direction):
                        for index, point in enumerate(line):
                            self.same(ask(line_through, box, direction, point), (line[0], len(line), index))

    def test_great_boxes(self):
        rng = random.Random(151)
        for direction in all_directions(2) + all_directions(3)[::3]:
            for box in ROOMY[len(direction)]:
                point = tuple(rng.choice((0, size - 1, size // 2, rng.randrange(size))) for size in box)
                first, many, index = ask(line_through, box, direction, point)
                self.assertTrue(inside(box, first) and not inside(box, go(first, direction, -1)))
                last = go(first, direction, many - 1)
                self.assertTrue(inside(box, last) and not inside(box, go(last, direction, 1)))
                self.same(go(first, direction, index), point)
                self.assertTrue(0 <= index < many)
        self.same(ask(line_through, (GREAT, GREAT), (1, -1), (5, GREAT - 7)), ((0, GREAT - 2), GREAT - 1, 5))

    def test_errors(self):
        for dims in (2, 3):
            box = (4, 3, 2)[:dims]
            for direction in no_directions(dims):
                self.raises(BadDirection, {"direction": direction}, line_through, box, direction, (1, 1, 1)[:dims])
                self.raises(BadDirection, {"direction": direction}, line_through, box, direction, None)
            for point in no_points(box):
                self.raises(NoPoint, {"point": point}, line_through, box, (1, -1, 0)[:dims], point)


class Between(Case):
    def test_one_line_and_two(self):
        rng = random.Random(152)
        none = 0
        for direction in all_directions(2) + all_directions(3):
            for most in (3, 10 ** 6, 10 ** 29):
                point = some_vector(rng, len(direction), most)
                many = rng.choice((0, 1, -1, rng.randint(-most, most)))
                other = go(point, direction, many)
                self.same(ask(steps_between, direction, point, other), many)
                self.same(ask(steps_between, direction, other, point), -many)
                bent = list(other)
                bent[rng.randrange(len(bent))] += rng.choice((1, -1))
                none += ask(steps_between, direction, point, tuple(bent)) is None
                self.assertTrue(steps_between(direction, point, tuple(bent)) is None or sum(map(bool, direction)) == 1)
        self.assertGreater(none, 1500)
        for direction in ((1, 0), (-1, 0)):
            self.same(ask(steps_between, direction, (0, 0), (5, 0)), 5 * direction[0])
            self.assertIsNone(ask(steps_between, direction, (0, 0), (5, 1)))
        self.assertIsNone(ask(steps_between, (2, 1), (0, 0), (3, 1)))
        self.assertIsNone(ask(steps_between, (2, 1), (0, 0), (1, 0)))
        self.assertIsNone(ask(steps_between, (0, 1), (0, 0), (1, 0)))
        self.same(ask(steps_between, (1, 1), (-FAR, -FAR), (FAR, FAR)), 2 * FAR)

    def test_errors(self):
        for direction in [v for v in no_directions(2) if v not in ((1, 2, 1), (1,))] + [(1,), (1, 2, 1, 0)]:
            if type(direction) is tuple and len(direction) == 3 and all(map(is_int, direction)):
                continue
            self.raises(BadDirection, {"direction": direction}, steps_between, direction, (0, 0), (0, 0))
            self.raises(BadDirection, {"direction": direction}, steps_between, direction, None, None)
        for dims in (2, 3):
            good, direction = (0, FAR, -FAR)[:dims], (1, -1, 1)[:dims]
            for value in ODD + ((0,) * (dims - 1), (0,) * (dims + 1), [0] * dims, (0,) * (dims - 1) + (True,), (False,) + good[1:],
                                (FAR + 1,) + good[1:], good[:-1] + (-FAR - 1,), good[:-1] + (None,), (10 ** 39,) * dims):
                if type(value) is tuple and len(value) == dims and all(is_int(v) and abs(v) <= FAR for v in value):
                    continue
                self.raises(NoPoint, {"point": value}, steps_between, direction, value, good)
                self.raises(NoPoint, {"point": value}, steps_between, direction, good, value)
                self.raises(NoPoint, {"point": value}, steps_between, direction, value, {})


class Numbers(Case):
    def test_small_boxes(self):
        for dims in (2, 3):
            for direction in all_directions(dims)[::1 if dims == 2 else 4]:
                for box in SMALL[dims]:
                    lines = lines_of(box, direction)
                    told = [(line[0], len(line)) for line in lines]
                    self.same(ask(all_lines, box, direction), told)
                    for index, line in enumerate(lines):
                        self.same(ask(line_at, box, direction, index), told[index])
                        for point in line:
                            self.same(ask(line_index, box, direction, point), index)
                    self.raises(NoIndex, {"index": len(lines)}, line_at, box, direction, len(lines))

    def test_great_boxes(self):
        rng = random.Random(153)
        for direction in all_directions(2) + all_directions(3)[::3]:
            for box in ROOMY[len(direction)]:
                # The lines that meet the box are as many as the points less those with one ahead of them.
                total, rest = 1, 1
                for size, move in zip(box, direction):
                    total, rest = total * size, rest * max(0, size - abs(move))
                lines = total - rest
                firsts = []
                indexes = [0, 1, lines - 2, lines - 1] + [rng.randrange(lines) for _ in range(6)]
                for index in sorted({index for index in indexes if 0 <= index < lines}):
                    first, many = ask(line_at, box, direction, index)
                    firsts.append(first)
                    self.same(line_through(box, direction, first), (first, many, 0))
                    for number in {0, many - 1, many // 2}:
                        self.same(ask(line_index, box, direction, go(first, direction, number)), index)
                self.assertEqual(firsts, sorted(set(firsts)))
                for index in (lines, -1, lines + 10 ** 20):
                    self.raises(NoIndex, {"index": index}, line_at, box, direction, index)
                self.same(list(itertools.islice(each_line(box, direction), 4)),
                          [line_at(box, direction, index) for index in range(min(4, lines))])

    def test_first_lines_of_great_boxes_at_once(self):
        for box, direction, expected in (((GREAT, 2), (-1, 0), [((GREAT - 1, 0), GREAT), ((GREAT - 1, 1), GREAT)]),
                                         ((GREAT, GREAT), (0, -1), [((0, GREAT - 1), GREAT), ((1, GREAT - 1), GREAT)]),
                                         ((GREAT,) * 3, (-4, 0, 1), [((0, 0, 0), 1), ((0, 1, 0), 1)]),
                                         ((GREAT,) * 3, (0, 0, 1), [((0, 0, 0), GREAT), ((0, 1, 0), GREAT)])):
            self.same(list(itertools.islice(each_line(box, direction), 2)), expected)

    def test_errors(self):
        for dims in (2, 3):
            box, good = (4, 3, 2)[:dims], (1, -1, 0)[:dims]
            for direction in no_directions(dims):
                self.raises(BadDirection, {"direction": direction}, line_at, box, direction, None)
                self.raises(BadDirection, {"direction": direction}, line_at, box, direction, 0)
                self.raises(BadDirection, {"direction": direction}, line_index, box, direction, (0, 0, 0)[:dims])
                self.raises(BadDirection, {"direction": direction}, line_index, box, direction, None)
                self.raises(BadDirection, {"direction": direction}, all_lines, box, direction)
            for index in ODD + (-1, 10 ** 9, "0", (0,)):
                if not (is_int(index) and 0 <= index < len(lines_of(box, good))):
                    self.raises(NoIndex, {"index": index}, line_at, box, good, index)
            for point in no_points(box):
                self.raises(NoPoint, {"point": point}, line_index, box, good, point)

    def test_error_of_each_line_as_it_begins(self):
        with self.assertRaises(BadDirection):
            next(each_line((3, 3), (2, 2)))

    def test_by_turns(self):
        whole = all_lines((4, 3), (1, -1))
        one, other = each_line((4, 3), (1, -1)), each_line((4, 3), (1, -1))
        taken = [next(one), next(one), next(other), next(one), next(other)]
        self.same(taken, [whole[0], whole[1], whole[0], whole[2], whole[1]])
        self.same((list(one), list(other)), (whole[3:], whole[2:]))


if __name__ == "__main__":
    unittest.main()
