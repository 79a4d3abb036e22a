"""Promise 36: the lines of a direction as objects."""

import random
import unittest

from support import ODD, Case, all_directions, ask, is_int, some_vector
from test_lines import SMALL, no_directions
from test_words import points

from wirebeats.counts import count_lines
from wirebeats.directions import between, period
from wirebeats.errors import BadDirection, NoPoint, Same
from wirebeats.lineobjects import Lines
from wirebeats.lines import line_through, steps_between
from wirebeats.places import canonical_rows

FAR = 10 ** 30 - 1


def tells(lines):
    return (lines.along, lines.rows, len(lines), str(lines))


class Objects(Case):
    def test_from_directions(self):
        for dims in (2, 3):
            for direction in all_directions(dims)[::1 if dims == 2 else 5]:
                lines = Lines(direction)
                text = "lines along " + " ".join(str(item) for item in direction)
                self.same(tells(lines), (direction, canonical_rows(direction), dims, text))
                self.assertIs(lines.along, direction)
                for name in ("along", "rows"):
                    with self.assertRaises(AttributeError):
                        setattr(lines, name, direction)

    def test_directions_that_are_none(self):
        for direction in set(map(repr, no_directions(2))) & set(map(repr, no_directions(3))):
            value = next(value for value in no_directions(2) if repr(value) == direction)
            self.raises(BadDirection, {"direction": value}, Lines, value)

    def test_from_two_points(self):
        rng = random.Random(221)
        for dims in (2, 3):
            for direction in all_directions(dims)[::1 if dims == 2 else 7]:
                point = some_vector(rng, dims, rng.choice((5, 10 ** 28)))
                many = rng.choice((1, 2, -1, 10 ** 20))
                other = tuple(item + many * move for item, move in zip(point, direction))
                lines = Lines.through(point, other)
                self.assertIs(type(lines), Lines)
                self.same(lines.along, between(point, other)[0])
                self.same(lines.rows, canonical_rows(direction))
                self.assertTrue(lines == Lines(direction))
                self.assertTrue((point, other) in lines)

    def test_points_that_are_none(self):
        for value in ODD + ((0, 0, 0, 0), (FAR + 1, 0), (0, 1, True), [0, 0], (0, -FAR - 1, 0), ("0", "1")):
            is_far = type(value) is tuple and len(value) in (2, 3) and all(is_int(item) and abs(item) <= FAR for item in value)
            if not is_far:
                self.raises(NoPoint, {"point": value}, Lines.through, value, (0, 0))
                self.raises(NoPoint, {"point": value}, Lines.through, value, None)
            if not is_far or len(value) != 2:
                self.raises(NoPoint, {"point": value}, Lines.through, (7, 9), value)
            if not is_far or len(value) != 3:
                self.raises(NoPoint, {"point": value}, Lines.through, (7, 9, 1), value)
        self.raises(Same, {}, Lines.through, (7, 9), (7, 9))
        self.raises(BadDirection, {"direction": (5, 1)}, Lines.through, (0, 0), (10, 2))
        self.raises(BadDirection, {"direction": (0, -1, 5)}, Lines.through, (0, 7, 0), (0, 0, 35))

    def test_what_they_tell_of_boxes_and_weights(self):
        rng = random.Random(222)
        for dims in (2, 3):
            for direction in all_directions(dims)[::3 if dims == 2 else 25]:
                lines = Lines(direction)
                for box in SMALL[dims] + ((10 ** 9,) * dims,):
                    self.same(lines // box, count_lines(box, direction))
                    for point in (rng.choice(points(box)) if box[0] < 100 else (5, 0, 10 ** 9 - 1)[:dims], (0,) * dims):
                        self.same(ask(lines, box, point), line_through(box, direction, point))
                weights = some_vector(rng, dims, 60)
                self.same(lines * weights, period(weights, direction))
                self.same(tells(lines), tells(Lines(direction)))

    def test_errors_of_boxes_and_weights(self):
        for direction, box, other, weights in (((1, -2), (3, 4), (3, 4, 5), (1, 2, 3)), ((1, -2, 0), (3, 4, 5), (3, 4), (1, 2))):
            lines = Lines(direction)
            for told in (other, (3,), (3, 4, 5, 6)):
                self.raises(BadDirection, {"direction": direction}, lambda box: lines // box, told)
                self.raises(BadDirection, {"direction": direction}, lines, told, (0,) * len(told))
                self.raises(BadDirection, {"direction": direction}, lines, told, None)
            for told in (weights, (1,), (1, 2, 3, 4)):
                self.raises(BadDirection, {"direction": direction}, lambda weights: lines * weights, told)
            for point in ODD + (box, (-1,) + (0,) * (len(box) - 1), (0,) * len(other), [0] * len(box), (0,) * (len(box) - 1) + (False,)):
                if not (type(point) is tuple and len(point) == len(box) and all(is_int(item) for item in point)
                        and all(0 <= item < size for item, size in zip(point, box))):
                    self.raises(NoPoint, {"point": point}, lines, box, point)

    def test_pairs(self):
        rng = random.Random(223)
        counts = {True: 0, False: 0}
        for at in range(300):
            dims = 2 + at % 2
            direction = rng.choice(all_directions(dims))
            lines = Lines(direction)
            point = some_vector(rng, dims, rng.choice((3, 10 ** 29)))
            many = rng.randint(-5, 5)
            other = tuple(item + many * move for item, move in zip(point, direction))
            self.assertIs((point, other) in lines, True)
            self.assertIs((point, point) in lines, True)
            other = tuple(item + rng.choice((0, 0, 0, 1, -1, 2)) for item in other)
            right = steps_between(direction, point, other) is not None
            counts[right] += 1
            self.assertIs((point, other) in lines, right)
            for pair in (point, [point, other], (point,), (point, other, other), (list(point), other), (point, list(other)), (point + (0,), other + (0,)),
                         (point[1:], other[1:]), (point, None), (None, point), (point, (FAR + 1,) * dims), ((True,) * dims, (True,) * dims)):
                self.assertIs(pair in lines, False, pair)
        self.assertGreater(min(counts.values()), 60)
        lines = Lines((1, 0))
        for value in ODD:
            self.assertIs(value in lines, value == ((0, 0), (0, 0)))
            self.assertIs(((0, 0), value) in lines, value in ((1, 0), (0, 0)) and type(value) is tuple and all(map(is_int, value)))
        self.assertIs(((FAR, 0), (-FAR, 0)) in lines, True)
        self.assertIs(((FAR + 1, 0), (-FAR, 0)) in lines, False)

    def test_equality(self):
        chosen = all_directions(2) + all_directions(3, 2)
        objects = [(direction, Lines(direction)) for direction in chosen]
        for direction, lines in objects[::3]:
            for other, told in objects[::2]:
                same = other in (direction, tuple(-item for item in direction))
                self.assertIs(lines == told, same)
                self.assertIs(lines != told, not same)
        lines = Lines((1, 1))
        for value in ODD + ((1, 1), lines.rows, str(lines), [lines]):
            self.assertFalse(lines == value)
            self.assertFalse(value == lines)
            self.assertTrue(lines != value)

    def test_loops(self):
        for loop in (iter, list, tuple, sorted):
            with self.assertRaises(TypeError):
                loop(Lines((1, 1)))
        with self.assertRaises(TypeError):
            for _ in Lines((1, 1, 0)):
                pass


if __name__ == "__main__":
    unittest.main()
