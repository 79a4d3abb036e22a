"""Promises 8 and 9: boxes."""

import itertools
import random
import unittest

from support import ODD, Case, ask, damaged, is_int

from wirebeats.boxes import box_error, point_at, point_index, points_of
from wirebeats.errors import NoIndex, NoPoint, TooLarge

GREAT = 10 ** 9
BOXES = ((1, 1), (3, 4), (1, 7), (5, 1), (15, 16), (2, 3, 4), (1, 1, 1), (6, 5, 8), (1, 240, 1), (240, 1))
GREAT_BOXES = ((GREAT, GREAT), (1, GREAT), (GREAT, GREAT, GREAT), (7, GREAT, 3), (999999937, 2, 65521))


def first_error(dims, value):
    if type(value) is not tuple or len(value) != dims:
        return (None, "box")
    wrong = [at for at, size in enumerate(value) if not is_int(size) or size < 1 or size > GREAT]
    return (wrong[0], "size") if wrong else None


class BoxErrors(Case):
    def test_boxes(self):
        for box in BOXES + GREAT_BOXES:
            self.same(ask(box_error, len(box), box), None)
            self.same(ask(box_error, 5 - len(box), box), (None, "box"))

    def test_sizes(self):
        for dims in (2, 3):
            for at in range(dims):
                for size in (0, -1, 1, 2, GREAT, GREAT + 1, -GREAT, True, False, None, "1", (1,), [1], 10 ** 39):
                    box = (5,) * at + (size,) + (5,) * (dims - 1 - at)
                    right = is_int(size) and 1 <= size <= GREAT
                    self.same(ask(box_error, dims, box), None if right else (at, "size"))
        self.same(ask(box_error, 3, (1, 0, 0)), (1, "size"))
        self.same(ask(box_error, 2, (GREAT + 1, None)), (0, "size"))

    def test_other_values(self):
        for value in ODD + ((1,), (1, 1, 1, 1), [1, 1], [1, 1, 1], "11"):
            for dims in (2, 3):
                self.same(ask(box_error, dims, value), first_error(dims, value))
        rng = random.Random(31)
        for box in BOXES + GREAT_BOXES:
            for value in damaged(rng, box, 30):
                for dims in (2, 3):
                    self.same(ask(box_error, dims, value), first_error(dims, value))


class Points(Case):
    def test_points(self):
        for box in BOXES:
            expected = tuple(itertools.product(*[range(size) for size in box]))
            self.same(ask(points_of, box), expected)
            self.assertEqual(sorted(expected), list(expected))

    def test_just_small(self):
        self.assertEqual(len(ask(points_of, (15, 16))), 240)
        self.assertEqual(len(ask(points_of, (4, 5, 12))), 240)
        for box in ((1, 241), (241, 1), (241, 1, 1), (11, 22), (16, 16), (5, 7, 7)) + GREAT_BOXES:
            self.raises(TooLarge, {"limit": 240}, points_of, box)

    def test_there_and_back(self):
        for box in BOXES:
            for index, point in enumerate(points_of(box)):
                self.same(ask(point_index, box, point), index)
                self.same(ask(point_at, box, index), point)

    def test_there_and_back_in_great_boxes(self):
        rng = random.Random(32)
        for box in GREAT_BOXES:
            many = 1
            for size in box:
                many *= size
            self.same(ask(point_at, box, 0), (0,) * len(box))
            self.same(ask(point_at, box, many - 1), tuple(size - 1 for size in box))
            self.same(ask(point_index, box, tuple(size - 1 for size in box)), many - 1)
            for _ in range(40):
                index = rng.randrange(many)
                point = ask(point_at, box, index)
                self.same(ask(point_index, box, point), index)
                point = tuple(rng.randrange(size) for size in box)
                self.same(ask(point_at, box, point_index(box, point)), point)

    def test_order(self):
        box = (GREAT, 5, GREAT)
        rng = random.Random(33)
        points = sorted(tuple(rng.randrange(size) for size in box) for _ in range(100))
        indexes = [point_index(box, point) for point in points]
        self.assertEqual(sorted(indexes), indexes)

    def test_no_points(self):
        for box in BOXES + GREAT_BOXES:
            zeros, last = (0,) * len(box), tuple(size - 1 for size in box)
            wrong = [zeros[1:], zeros + (0,), list(zeros), (False,) + zeros[1:], zeros[:-1] + (None,), (-1,) + zeros[1:],
                     zeros[:-1] + (-1,), (box[0],) + last[1:], last[:-1] + (box[-1],), (10 ** 39,) + zeros[1:]]
            wrong += [value for value in ODD if not (type(value) is tuple and len(value) == len(box))]
            for value in wrong:
                self.raises(NoPoint, {"point": value}, point_index, box, value)
        point = (True, 0)
        self.raises(NoPoint, {"point": point}, point_index, (3, 3), point)

    def test_no_indexes(self):
        for box in BOXES + GREAT_BOXES:
            many = 1
            for size in box:
                many *= size
            wrong = [value for value in ODD if not (is_int(value) and 0 <= value < many)]
            for value in wrong + [many, -1, -many, True, False, "0", (0,), [0]]:
                self.raises(NoIndex, {"index": value}, point_at, box, value)


if __name__ == "__main__":
    unittest.main()
