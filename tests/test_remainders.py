"""Promise 35: remainders and the beats of places."""

import random
import unittest

from support import ODD, Case, all_directions, ask, dot, is_int, some_rows, some_vector

from wirebeats.errors import BadDirection, Flat, NoPlace
from wirebeats.places import canonical_rows
from wirebeats.remainders import next_beat, remainders, works_at

FAR = 10 ** 30 - 1
FUNCTIONS = ((remainders, ()), (works_at, ((0,), 0)), (next_beat, ((0,), 0)))


def made(matrix, vector):
    return tuple(dot(row, vector) for row in matrix)


def some_cases(seed, most=60):
    """Weights, directions and rows, canonical ones and others, with their periods, which are not 0."""
    rng = random.Random(seed)
    for direction in all_directions(2) + all_directions(3):
        for rows in (canonical_rows(direction), some_rows(rng, canonical_rows(direction))):
            weights = some_vector(rng, len(direction), most)
            if dot(weights, direction) != 0:
                yield rng, weights, direction, rows, abs(dot(weights, direction))


class Remainders(Case):
    def test_remainders(self):
        signs = set()
        for rng, weights, direction, rows, period in some_cases(51):
            found = ask(remainders, weights, direction, rows)
            self.assertIs(type(found), tuple)
            self.assertEqual(len(found), len(rows))
            self.assertTrue(all(is_int(item) and 0 <= item < period for item in found))
            for most in (3, 10 ** 9):
                point = some_vector(rng, len(direction), most)
                self.assertEqual((dot(weights, point) - dot(found, made(rows, point))) % period, 0)
            for at in range(len(direction)):
                unit = tuple(int(k == at) for k in range(len(direction)))
                self.assertEqual((dot(weights, unit) - dot(found, made(rows, unit))) % period, 0)
            signs.add(dot(weights, direction) > 0)
        self.assertEqual(signs, {True, False})

    def test_period_of_one(self):
        self.same(ask(remainders, (1, 0), (1, 0), ((0, 1),)), (0,))
        self.same(ask(remainders, (1, 0), (-1, 0), ((0, 1),)), (0,))
        self.same(ask(remainders, (-1, 7, 9), (1, 0, 0), ((0, 1, 0), (0, 0, 1))), (0, 0))
        self.same(ask(remainders, (-2, 7, 9), (1, 0, 0), ((0, 1, 0), (0, 0, -1))), (1, 1))


class WorksAt(Case):
    def test_beats_that_a_place_has_and_others(self):
        for rng, weights, direction, rows, period in some_cases(52):
            seed = some_vector(rng, len(direction), rng.choice((4, 10 ** 6, 10 ** 18)))
            place = made(rows, seed)
            many = rng.choice((0, 1, -1, rng.randint(-10 ** 9, 10 ** 9)))
            expected = tuple(item + many * move for item, move in zip(seed, direction))
            beat = dot(weights, expected)
            self.same(ask(works_at, weights, direction, rows, place, beat), expected)
            for by in {1, -1, period - 1, rng.randint(1, 10 ** 9)}:
                found = ask(works_at, weights, direction, rows, place, beat + by)
                if by % period:
                    self.assertIsNone(found)
                else:
                    self.assertEqual((made(rows, found), dot(weights, found)), (place, beat + by))

    def test_thirty_digits(self):
        self.same(ask(works_at, (1, 2), (1, 1), ((1, -1),), (FAR,), FAR), (FAR, 0))
        self.same(ask(works_at, (0, 3), (-1, 1), ((1, 1),), (-FAR,), -FAR), (-FAR + FAR // 3, -FAR // 3))


class NextBeat(Case):
    def test_next(self):
        for rng, weights, direction, rows, period in some_cases(53):
            seed = some_vector(rng, len(direction), rng.choice((4, 10 ** 6, 10 ** 18)))
            place = made(rows, seed)
            for beat in (dot(weights, seed), dot(weights, seed) + 1, rng.randint(-10 ** 29, 10 ** 29), FAR, -FAR):
                found = ask(next_beat, weights, direction, rows, place, beat)
                self.assertIs(type(found), int)
                self.assertTrue(beat <= found < beat + period)
                self.assertEqual((found - dot(weights, seed)) % period, 0)
                self.assertIsNotNone(works_at(weights, direction, rows, place, found))
                if found > beat:
                    self.assertIsNone(works_at(weights, direction, rows, place, beat))


class RemaindersErrors(Case):
    def test_bad_directions_come_first(self):
        flat, deep = (1, 1), (1, 1, 1)
        wrong = [value for value in ODD if not (value in all_directions(2) and all(map(is_int, value)))]
        for function, more in FUNCTIONS:
            for value in wrong + [(2, 2), (0, 0), (5, 1), (1, -1, 0), (True, 0), [1, 0]]:
                for weights in ((1, 2), (0, 0)):
                    self.raises(BadDirection, {"direction": value}, function, weights, value, ((1, -1),), *more)
                    self.raises(BadDirection, {"direction": value}, function, weights, value, None, *more)
            self.raises(BadDirection, {"direction": deep}, function, (1, 2), deep, ((1, 0, -1), (0, 1, -1)), *more)
            self.raises(BadDirection, {"direction": flat}, function, (1, 2, 3), flat, ((1, -1),), *more)
            self.raises(BadDirection, {"direction": flat}, function, (0, 0), flat, ((1, 0, -1), (0, 1, -1)), *more)
            self.raises(BadDirection, {"direction": deep}, function, (0, 0, 0), deep, ((1, -1),), *more)

    def test_flat_comes_before_no_place(self):
        for function, more in FUNCTIONS:
            self.raises(Flat, {}, function, (1, -1), (1, 1), ((1, -1),), *more)
            self.raises(Flat, {}, function, (0, 0), (-1, 3), ((3, 1),), *more)
        for function in (works_at, next_beat):
            self.raises(Flat, {}, function, (0, 0), (1, 1), ((1, -1),), None, 0)
            self.raises(Flat, {}, function, (1, 1, -2), (1, 1, 1), ((1, 0, -1), (0, 1, -1)), [0, 0], 0)

    def test_no_places(self):
        wrong = [value for value in ODD if not (type(value) is tuple and len(value) == 1 and is_int(value[0]))]
        for function in (works_at, next_beat):
            for place in wrong + [(0, 0), [0], (True,), (FAR + 1,), (-FAR - 1,), (None,)]:
                self.raises(NoPlace, {"place": place}, function, (1, 2), (1, 1), ((1, -1),), place, 0)
            for place in ((0,), (0, 0, 0), [0, 0], (0, False), (0, FAR + 1), (0, "0")):
                rows = ((1, 0, -1), (0, 1, -1))
                self.raises(NoPlace, {"place": place}, function, (1, 2, 3), (1, 1, 1), rows, place, 0)


if __name__ == "__main__":
    unittest.main()
