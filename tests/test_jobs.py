"""Promise 47: jobs."""

import itertools
import random
import unittest

from support import ODD, Case, all_directions, ask, damaged, dot, is_int, some_vector
from test_words import less, points

from wirebeats.errors import Flat
from wirebeats.jobs import free_begin, gap_serves, meeting, meeting_holds, next_gap

GREAT = 10 ** 9
FAR = 10 ** 12
W, U, B, Z = (1, 1), (1, 1), (3, 3), (0, 0)
SMALL = {2: ((1, 1), (2, 3), (4, 4), (1, 5), (6, 2)), 3: ((1, 1, 1), (2, 3, 2), (3, 1, 2), (2, 2, 4))}


def vectors_of(job):
    return [tuple(a + b for a, b in zip(job[0], point)) for point in points(job[1])]


def on_one_line(direction, one, other):
    """Whether the way between two vectors is so many times the direction."""
    moves = less(other, one)
    many = next(move // item for move, item in zip(moves, direction) if item)
    return moves == tuple(many * item for item in direction)


def all_meetings(weights, direction, one, other):
    beats = {}
    for vector in vectors_of(other):
        beats.setdefault(dot(weights, vector) + other[2], []).append(vector)
    return [(v, z) for v in vectors_of(one) for z in beats.get(dot(weights, v) + one[2], []) if on_one_line(direction, v, z)]


def some_cases(seed, many, most=4, reach=4):
    """Weights and directions with a period other than 0."""
    rng = random.Random(seed)
    while many:
        direction = rng.choice(all_directions(2 + many % 2, 1 + rng.randrange(reach)))
        weights = some_vector(rng, len(direction), most)
        if dot(weights, direction) != 0:
            many -= 1
            yield rng, weights, direction, abs(dot(weights, direction))


def some_job(rng, dims):
    return (some_vector(rng, dims, 4), rng.choice(SMALL[dims]), rng.randint(-6, 6))


class Meeting(Case):
    def check(self, weights, direction, one, other):
        expected = all_meetings(weights, direction, one, other)
        found = ask(meeting, weights, direction, one, other)
        if expected:
            self.assertIn(found, expected)
        else:
            self.assertIsNone(found)
        self.assertIs(ask(meeting_holds, weights, direction, one, other, found), True)
        self.assertIs(ask(meeting_holds, weights, direction, one, other, None), not expected)
        return expected

    def test_small_jobs(self):
        counts = []
        for rng, weights, direction, _ in some_cases(171, 400):
            one, other = some_job(rng, len(direction)), some_job(rng, len(direction))
            if rng.random() < 0.5:
                # A begin with which some two vectors of one line meet.
                many = rng.randint(-2, 2)
                other = (tuple(a + many * b for a, b in zip(one[0], direction)), other[1], one[2] - many * dot(weights, direction))
            expected = self.check(weights, direction, one, other)
            self.check(weights, direction, other, one)
            counts.append(len(expected))
            pairs = [(v, z) for v in vectors_of(one) for z in vectors_of(other)]
            for value in rng.sample(pairs, min(5, len(pairs))) + expected[:3]:
                self.assertIs(ask(meeting_holds, weights, direction, one, other, value), value in expected)
                self.assertIs(ask(meeting_holds, weights, direction, one, other, value[::-1]), value[::-1] in expected)
        self.assertGreater(counts.count(0), 80)
        self.assertGreater(counts.count(1), 20)
        self.assertGreater(sum(many > 1 for many in counts), 80)

    def test_at_the_edges(self):
        for begin in range(-8, 9):
            self.check(W, U, (Z, B, 0), (Z, B, begin))
            for corner in ((2, 2), (3, 3), (2, -2), (-3, 0), (-2, -2)):
                self.check(W, U, (Z, B, 0), (corner, B, begin))
                self.check((-2, 1), (1, -1), (Z, (2, 3), 1), (corner, (3, 1), begin))
        self.same(ask(meeting, W, U, (Z, B, 0), (Z, B, 4)), ((2, 2), (0, 0)))
        self.assertIsNone(ask(meeting, W, U, (Z, B, 0), (Z, B, 6)))
        self.assertIsNone(ask(meeting, W, U, (Z, B, 0), (Z, B, 3)))

    def test_one_job_with_itself(self):
        for rng, weights, direction, _ in some_cases(172, 40):
            job = some_job(rng, len(direction))
            vector, other = ask(meeting, weights, direction, job, job)
            self.same(vector, other)
            self.assertIn(vector, vectors_of(job))
            self.assertIs(ask(meeting_holds, weights, direction, job, job, (vector, vector)), True)
            self.assertIs(ask(meeting_holds, weights, direction, job, job, None), False)

    def test_great_jobs(self):
        box = (GREAT, GREAT)
        one = ((-GREAT, -GREAT), box, FAR)
        for corner, begin, ends in (((-1, -1), FAR, ((-1, -1), (-1, -1))), ((0, 0), FAR, None), ((0, 0), FAR - 2, ((-1, -1), (0, 0))),
                                    ((0, -1), FAR - 2, ((-1, -2), (0, -1))), ((0, 0), FAR - 1, None),
                                    ((-GREAT, -GREAT), FAR - 2 * GREAT, None),
                                    ((-GREAT, -GREAT), FAR - 2 * GREAT + 2, ((-GREAT, -GREAT), (-1, -1))),
                                    ((-GREAT, -GREAT), FAR + 2 * GREAT - 2, ((-1, -1), (-GREAT, -GREAT))),
                                    ((-GREAT, -GREAT), FAR + 2 * GREAT, None), ((-GREAT, -GREAT), -FAR, None)):
            other = (corner, box if corner == one[0] else (1, 1), begin)
            self.same(ask(meeting, W, U, one, other), ends)
            self.assertIs(ask(meeting_holds, W, U, one, other, ends), True)
            self.assertIs(ask(meeting_holds, W, U, one, other, None), ends is None)
        deep = ((GREAT,) * 3, (GREAT,) * 3, 0)
        found = ask(meeting, (60, 59, -60), (4, 3, -4), deep, ((GREAT,) * 3, (GREAT,) * 3, 657 * 1000))
        self.assertEqual(less(found[0], found[1]), (4000, 3000, -4000))

    def test_values_of_all_kinds(self):
        rng = random.Random(173)
        one, other = (Z, B, 0), ((1, 0), B, 2)
        expected = all_meetings(W, U, one, other)
        values = list(ODD) + damaged(rng, expected[0], 300) + [[v, z] for v, z in expected]
        values += [(list(v), z) for v, z in expected] + [((1, True), (1, 1)), (expected[0][0],), expected[0] + ((0, 0),)]
        for value in values:
            right = repr(value) in [repr(told) for told in expected]
            self.assertIs(ask(meeting_holds, W, U, one, other, value), right, value)
        none = ((5, 5), B, 0)
        for value in values:
            self.assertIs(ask(meeting_holds, W, U, one, none, value), value is None)
        self.assertEqual(len(expected), len(all_meetings(W, U, other, one)))
        for value in expected:
            self.assertIs(ask(meeting_holds, W, U, one, other, value), True)
            v, z = value
            self.assertIs(ask(meeting_holds, W, U, one, other, ((v[0] + GREAT, v[1]), z)), False)
            self.assertIs(ask(meeting_holds, W, U, one, other, (tuple(map(bool, v)), z)), False)

    def test_begins_and_starts(self):
        for shift in (-FAR, FAR, 7):
            one, other = (Z, B, shift), (Z, B, shift + 4 if shift < 0 else shift - 4)
            self.assertIsNotNone(ask(meeting, W, U, one, other))
            self.assertIsNone(ask(meeting, W, U, one, (Z, B, shift + 5 if shift < 0 else shift - 5)))


class IsFlat(Case):
    def test_flat(self):
        for weights, direction in (((1, -1), (1, 1)), ((0, 0), (1, 0)), ((0, 5), (-1, 0))):
            job = (Z, B, 0)
            self.raises(Flat, {}, meeting, weights, direction, job, job)
            for value in (None, ((0, 0), (0, 0)), 5):
                self.raises(Flat, {}, meeting_holds, weights, direction, job, job, value)
            for many in (1, 2, None):
                self.raises(Flat, {}, gap_serves, weights, direction, B, 3, many)
            self.raises(Flat, {}, next_gap, weights, direction, B, -5)
            self.raises(Flat, {}, free_begin, weights, direction, Z, B, (), 0)
            self.raises(Flat, {}, free_begin, weights, direction, Z, B, (job,), 0)


class Gaps(Case):
    def meets(self, weights, direction, box, difference):
        zeros = (0,) * len(box)
        return bool(all_meetings(weights, direction, (zeros, box, 0), (zeros, box, difference)))

    def test_against_a_count_by_hand(self):
        answers = {True: 0, False: 0}
        for rng, weights, direction, period in some_cases(174, 60, 3, 2):
            box = rng.choice(SMALL[len(direction)])
            # Jobs so far apart that the beats of the box have passed do not meet.
            span = sum(abs(w) * (size - 1) for w, size in zip(weights, box)) + 1
            clashes = [self.meets(weights, direction, box, difference) for difference in range(2 * span + 2 * period + 2)]
            for gap in range(1, span + period + 2):
                for many in (1, 2, 3, 7, None):
                    apart = range(1, many if many else span // gap + 2)
                    expected = not any(at * gap < len(clashes) and clashes[at * gap] for at in apart)
                    answers[expected] += 1
                    self.assertIs(ask(gap_serves, weights, direction, box, gap, many), expected, (weights, direction, box, gap, many))
            serving = [gap for gap in range(1, span + period + 2)
                       if not any(clashes[at * gap] for at in range(1, span // gap + 2) if at * gap < len(clashes))]
            for number in [-10 ** 19, -1, 0, 1, 2, 3] + list(range(4, span + 1, 3)):
                self.same(ask(next_gap, weights, direction, box, number), min(gap for gap in serving if gap >= number))
        self.assertGreater(min(answers.values()), 300)

    def test_great_boxes(self):
        box = (GREAT, GREAT)
        for gap, many, expected in ((1, 2, True), (1, 3, False), (2, 2, False), (2 * GREAT - 2, 2, False), (2 * GREAT - 1, None, True),
                                    (2 * GREAT, None, True), (GREAT - 1, 3, False), (GREAT - 1, 2, True), (GREAT, None, False),
                                    (GREAT + 1, None, True), (GREAT + 1, 3, True), (10 ** 20, None, True), (1, 1, True), (2, 1, True),
                                    (GREAT - 1, None, False), (5, 10 ** 30, False)):
            self.assertIs(ask(gap_serves, W, U, box, gap, many), expected, (gap, many))
        for number, gap in ((1, GREAT + 1), (0, GREAT + 1), (-10 ** 20 + 1, GREAT + 1), (GREAT + 1, GREAT + 1), (GREAT + 2, GREAT + 3),
                            (2 * GREAT - 2, 2 * GREAT - 1), (2 * GREAT, 2 * GREAT), (10 ** 20 - 2, 10 ** 20 - 2)):
            self.same(ask(next_gap, W, U, box, number), gap)
        weights, direction = (60, 60, 60), (4, 4, 1)
        for number in (1, 10 ** 9 // 4 - 3, 10 ** 9 // 4, 540 * 10 ** 6, 10 ** 10, 10 ** 20 - 1):
            gap = ask(next_gap, weights, direction, (GREAT,) * 3, number)
            self.assertGreaterEqual(gap, number)
            self.assertIs(gap_serves(weights, direction, (GREAT,) * 3, gap, None), True)
            for other in range(max(1, number, gap - 50), gap):
                self.assertIs(gap_serves(weights, direction, (GREAT,) * 3, other, None), False)

    def test_lines_of_one_point(self):
        for box in ((1, 1), (1, GREAT)):
            self.assertIs(ask(gap_serves, (3, 5), (1, 0), box, 1, None), True)
            self.same(ask(next_gap, (3, 5), (1, 0), box, -3), 1)
            self.same(ask(next_gap, (3, 5), (1, 0), box, 10 ** 19), 10 ** 19)


class FreeBegin(Case):
    def test_against_a_search(self):
        moved = 0
        for rng, weights, direction, _ in some_cases(175, 120, 2, 1):
            dims = len(direction)
            corner, box = some_vector(rng, dims, 2), rng.choice(SMALL[dims])
            jobs = tuple(some_job(rng, dims) for _ in range(rng.choice((0, 2, 4, 8))))
            begin = rng.randint(-9, 5)
            expected = begin
            while any(all_meetings(weights, direction, (corner, box, expected), job) for job in jobs):
                expected += 1
            moved += expected > begin
            self.same(ask(free_begin, weights, direction, corner, box, jobs, begin), expected)
        self.assertGreater(moved, 15)

    def test_periods_of_all_kinds(self):
        moved = 0
        for rng, weights, direction, period in some_cases(177, 150, 5, 2):
            dims = len(direction)
            corner, box = some_vector(rng, dims, 9), tuple(rng.randint(2, 5) for _ in range(dims))
            # Jobs of which the first one meets a job begun at once, and each other one a job begun a beat or a period later.
            begin, late, jobs = rng.randint(-30, 30), 0, []
            while len(jobs) < rng.randint(1, 12):
                many = rng.randint(-1, 1)
                there = tuple(item + many * move for item, move in zip(corner, direction))
                jobs.append((there, box, begin + late - many * dot(weights, direction)))
                late = rng.choice((late + 1, late + period, rng.randrange(2 * period)))
            expected = begin
            while any(all_meetings(weights, direction, (corner, box, expected), job) for job in jobs):
                expected += 1
            moved += period > 2 and expected > begin + 1
            self.same(ask(free_begin, weights, direction, corner, box, tuple(jobs), begin), expected)
        self.assertGreater(moved, 15)

    def test_many_jobs_that_meet_one_another(self):
        rng = random.Random(176)
        for size in (3, 40, GREAT):
            box = (size, size)
            jobs = tuple((some_vector(rng, 2, 2), box, rng.randint(-3, 3)) for _ in range(20))
            for begin in (0, -10 * GREAT, -5 * size):
                found = ask(free_begin, W, U, Z, box, jobs, begin)
                self.assertTrue(all(meeting(W, U, (Z, box, found), job) is None for job in jobs))
                for other in {begin, begin + 1, found - 1, found - 2, found - 3, (begin + found) // 2}:
                    if begin <= other < found:
                        self.assertTrue(any(meeting(W, U, (Z, box, other), job) is not None for job in jobs))
        row = tuple((Z, (3, 3), 6 * at) for at in range(20))
        self.same(ask(free_begin, W, U, Z, (3, 3), row, -1), -1)
        self.same(ask(free_begin, W, U, Z, (3, 3), row, -4), -3)
        self.same(ask(free_begin, W, U, Z, (3, 3), row, 0), 1)
        both = tuple((Z, (3, 3), 5 * at) for at in range(20))
        self.same(ask(free_begin, W, U, Z, (3, 3), both, 0), 96)
        self.same(ask(free_begin, W, U, Z, (3, 3), both, -10), -10)
        self.same(ask(free_begin, W, U, Z, (3, 3), both[::-1], -4), -3)
        self.same(ask(free_begin, W, U, Z, (3, 3), both[::-1], 1), 96)
        self.same(ask(free_begin, W, U, Z, (3, 3), both, 97), 98)
        self.same(ask(free_begin, W, U, Z, (3, 3), both[:10], -5), -5)

    def test_bounds(self):
        great = (GREAT, GREAT)
        self.same(ask(free_begin, W, U, Z, great, (), FAR), FAR)
        self.same(ask(free_begin, W, U, Z, great, (), -FAR), -FAR)
        for begin in (FAR, -FAR):
            job = (Z, great, begin)
            self.same(ask(free_begin, W, U, Z, great, (job,), begin), begin + 1)
            both = (job, (Z, great, begin + 1))
            self.same(ask(free_begin, W, U, Z, great, both, begin), begin + 2 * GREAT)
        # With a period of 1 no other beats are free.
        self.same(ask(free_begin, (1, 0), (1, 0), Z, great, ((Z, great, FAR),), FAR), FAR + GREAT)
        self.same(ask(free_begin, (-1, 0), (1, 0), Z, great, ((Z, great, FAR),), FAR - GREAT + 1), FAR + GREAT)
        self.same(ask(free_begin, (-1, 0), (1, 0), Z, great, ((Z, great, FAR),), FAR - GREAT), FAR - GREAT)

    def test_all_orders_of_the_jobs(self):
        jobs = ((Z, B, 0), (Z, B, 1), ((1, 0), B, 3), ((0, 2), B, 2))
        found = {ask(free_begin, W, U, Z, B, order, -2) for order in itertools.permutations(jobs)}
        self.assertEqual(len(found), 1)
        self.assertTrue(is_int(found.pop()))


if __name__ == "__main__":
    unittest.main()
