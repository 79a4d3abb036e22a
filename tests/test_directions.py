"""Promises 25 and 26: directions."""

import random
import unittest

from support import ODD, Case, all_directions, all_vectors, ask, divisor, dot, is_int, some_vector, variants

from wirebeats.directions import between, directions, is_direction, period
from wirebeats.errors import BadDirection, NoPoint, Same

FAR = 10 ** 30 - 1


def right_direction(dims, value):
    if type(value) is not tuple or len(value) != dims or not all(is_int(item) for item in value):
        return False
    return max(abs(item) for item in value) <= 4 and divisor(value) == 1


class IsDirection(Case):
    def test_all_vectors(self):
        for dims in (2, 3):
            for vector in all_vectors(dims, 6 if dims == 2 else 5):
                self.assertIs(ask(is_direction, dims, vector), right_direction(dims, vector), vector)
                self.assertIs(ask(is_direction, 5 - dims, vector), False)

    def test_wrong_values(self):
        wrong = ((0, 0), (2, 4), (3, -3), (1, 5), (-5, 1), (1,), (1, 0, 0), [1, 0], (True, 0), (1, False), (1, None),
                 (1, "0"), ((1, 0),), "10", None, {}, (1, 10 ** 39), ((1,), 0), ([1], 0), (1, 0, None))
        for value in wrong:
            self.assertIs(ask(is_direction, 2, value), False, value)
        for value in ((0, 0, 0), (2, 0, -4), (0, 0, 2), (1, 1, 5), (1, 1, True), [1, 1, 1], (1, 1), (1, 1, 1, 1)):
            self.assertIs(ask(is_direction, 3, value), False, value)

    def test_odd_values(self):
        for dims in (2, 3):
            for value in ODD:
                self.assertIs(ask(is_direction, dims, value), right_direction(dims, value), value)
            for direction in all_directions(dims, 2):
                for value in variants(direction):
                    self.assertIs(ask(is_direction, dims, value), right_direction(dims, value), value)


class Directions(Case):
    def test_all_sizes(self):
        for dims in (2, 3):
            for most in (1, 2, 3, 4):
                both = all_directions(dims, most)
                first = [next(item for item in vector if item != 0) for vector in both]
                expected = [vector for vector, item in zip(both, first) if item > 0]
                self.same(ask(directions, dims, most), tuple(expected))

    def test_numbers(self):
        self.assertEqual([len(directions(2, most)) for most in (1, 2, 3, 4)], [4, 8, 16, 24])
        self.assertEqual(len(directions(3, 1)), 13)


class Period(Case):
    def test_periods(self):
        rng = random.Random(11)
        for dims in (2, 3):
            for direction in all_directions(dims):
                weights = some_vector(rng, dims, 60)
                self.same(ask(period, weights, direction), abs(dot(weights, direction)))
        self.same(ask(period, (0, 0), (1, 0)), 0)
        self.same(ask(period, (1, 1, 1), (1, -1, 0)), 0)
        self.same(ask(period, (-60, -60, -60), (4, 4, 3)), 660)

    def test_bad_directions(self):
        for dims in (2, 3):
            for value in ODD + ((2, 4), (0, 0), (1, 5), (1, 1, 2, 3), (2, 2, 4), [1, 1, 1], (1, 0, True)):
                if not right_direction(dims, value):
                    self.raises(BadDirection, {"direction": value}, period, (1,) * dims, value)
        other = (1, 0, 0)
        self.raises(BadDirection, {"direction": other}, period, (1, 1), other)
        other = (1, 0)
        self.raises(BadDirection, {"direction": other}, period, (1, 1, 1), other)


class Between(Case):
    def test_some_directions_apart(self):
        rng = random.Random(12)
        for dims in (2, 3):
            for direction in all_directions(dims):
                for many in (1, 2, rng.randint(3, 100), rng.randint(1, 10 ** 29)):
                    most = rng.choice((0, 5, 10 ** 29))
                    point = some_vector(rng, dims, most)
                    other = tuple(item + many * move for item, move in zip(point, direction))
                    self.same(ask(between, point, other), (direction, many))

    def test_beside(self):
        rng = random.Random(13)
        for _ in range(300):
            dims = rng.choice((2, 3))
            point, other = some_vector(rng, dims, 20), some_vector(rng, dims, 20)
            moves = tuple(there - here for here, there in zip(point, other))
            many = divisor(moves)
            if many == 0:
                self.raises(Same, {}, between, point, other)
                continue
            direction = tuple(move // many for move in moves)
            if max(abs(item) for item in direction) <= 4:
                self.same(ask(between, point, other), (direction, many))
            else:
                self.raises(BadDirection, {"direction": direction}, between, point, other)
        self.raises(BadDirection, {"direction": (5, 1)}, between, (0, 0), (10, 2))
        self.raises(BadDirection, {"direction": (0, 5, -4)}, between, (0, 1, 0), (0, 16, -12))
        self.same(ask(between, (0, 0), (0, -7)), ((0, -1), 7))

    def test_thirty_digits(self):
        self.same(ask(between, (FAR, -FAR), (-FAR, FAR)), ((-1, 1), 2 * FAR))
        self.same(ask(between, (0, 0, -FAR), (0, 0, FAR)), ((0, 0, 1), 2 * FAR))
        for point in ((FAR + 1, 0), (0, -FAR - 1), (10 ** 30, 10 ** 30), (0, 10 ** 39)):
            self.raises(NoPoint, {"point": point}, between, point, (0, 0))
            self.raises(NoPoint, {"point": point}, between, (0, 0), point)
            self.raises(NoPoint, {"point": point}, between, point, point)

    def test_no_points(self):
        for value in ODD + ((1,), (1, 2, 3, 4), [0, 0], (True, 0), (0, 0, False), (0, None)):
            many = len(value) if type(value) is tuple and all(is_int(item) for item in value) else 0
            if many not in (2, 3):
                self.raises(NoPoint, {"point": value}, between, value, (0, 0))
                self.raises(NoPoint, {"point": value}, between, value, [])
            if many != 2:
                self.raises(NoPoint, {"point": value}, between, (7, 0), value)
            if many != 3:
                self.raises(NoPoint, {"point": value}, between, (7, 0, 1), value)

    def test_same(self):
        for point in ((0, 0), (1, -2, 3), (FAR, FAR)):
            self.raises(Same, {}, between, point, tuple(point))


if __name__ == "__main__":
    unittest.main()
