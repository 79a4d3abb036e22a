"""Promises 49 to 53: blocks of places."""

import itertools
import math
import random
import unittest

from support import ODD, Case, all_directions, all_vectors, ask, damaged, dot, is_int, some_rows, some_vector, variants
from test_words import points

from wirebeats.clusters import (box_meeting, find_free, free_holds, greatest_sides, is_tight, meeting_points, tight_sides,
                                worker)
from wirebeats.errors import NoMeeting, NotFree, TooLarge
from wirebeats.places import canonical_rows
from wirebeats.remainders import remainders

BIG = 10 ** 19


def left(cycle, rests, sides):
    """What the places of the block of zeros leave."""
    return tuple(dot(rests, place) % cycle for place in itertools.product(*[range(side) for side in sides]))


def free(cycle, rests, sides):
    return math.prod(sides) <= cycle and len(set(left(cycle, rests, sides))) == math.prod(sides)


def meets(cycle, rests, sides, value):
    if type(value) is not tuple or len(value) != len(sides) or not all(is_int(item) for item in value):
        return False
    return any(value) and all(abs(item) < side for item, side in zip(value, sides)) and dot(rests, value) % cycle == 0


def holds(cycle, rests, sides, value):
    if type(value) is not tuple or len(value) != 2:
        return False
    if value[0] == "meet":
        return meets(cycle, rests, sides, value[1])
    return free(cycle, rests, sides) and repr(value) == repr(("free", left(cycle, rests, sides)))


def some_cases(seed, many, most=720):
    rng = random.Random(seed)
    for at in range(many):
        cycle = rng.choice((1, 2, 6, 12, 60, 719, 720, rng.randint(1, 720)))
        cycle = min(cycle, most)
        width = 1 + at % 2
        rests = tuple(rng.choice((0, 1, cycle - 1, rng.randrange(cycle))) % cycle for _ in range(width))
        divisors = [side for side in range(1, cycle + 1) if cycle % side == 0]
        sides = tuple(min(720, rng.choice((1, 2, 3, cycle, 720, rng.choice(divisors), rng.randint(1, 40)))) for _ in range(width))
        if at % 4 == 0:
            # Sides that are free, or just beyond.
            sides = rng.choice(greatest_sides(cycle, rests))
            if at % 8:
                sides = tuple(min(720, side + (axis == at // 8 % width)) for axis, side in enumerate(sides))
        yield rng, cycle, rests, sides


class Free(Case):
    def test_against_a_reckoning(self):
        words = []
        for _, cycle, rests, sides in some_cases(231, 600):
            found = ask(find_free, cycle, rests, sides)
            words.append(found[0])
            self.assertTrue(holds(cycle, rests, sides, found), (cycle, rests, sides, found))
            self.assertEqual(found[0] == "free", free(cycle, rests, sides))
            self.assertIs(ask(free_holds, cycle, rests, sides, found), True)
            self.assertIs(ask(is_tight, cycle, rests, sides), found[0] == "free" and math.prod(sides) == cycle)
        self.assertGreater(min(words.count("free"), words.count("meet")), 150)

    def test_all_small_ones(self):
        for cycle in range(1, 8):
            for width in (1, 2):
                for rests in itertools.product(range(cycle), repeat=width):
                    for sides in itertools.product(range(1, 5), repeat=width):
                        found = find_free(cycle, rests, sides)
                        self.assertTrue(holds(cycle, rests, sides, found))
                        vectors = [v for v in all_vectors(width, 4) if meets(cycle, rests, sides, v)]
                        self.assertEqual(found[0] == "free", not vectors)
                        for vector in vectors:
                            self.assertIs(free_holds(cycle, rests, sides, ("meet", vector)), True)

    def test_meeting_vectors(self):
        counts = {True: 0, False: 0}
        for rng, cycle, rests, sides in some_cases(232, 150):
            word, found = find_free(cycle, rests, sides)
            tried = [tuple(rng.randint(1 - side, side - 1) for side in sides) for _ in range(10)]
            tried += [(0,) * len(sides), sides, tuple(-side for side in sides), tuple(side - 1 for side in sides)]
            if word == "meet":
                tried += [found, tuple(-item for item in found), tuple(2 * item for item in found), tuple(3 * item for item in found)]
                tried += [list(found), found + (0,), found[1:], tuple(bool(item) for item in found), (found,)]
            for value in tried:
                right = meets(cycle, rests, sides, value)
                counts[right] += 1
                self.assertIs(ask(free_holds, cycle, rests, sides, ("meet", value)), right, (cycle, rests, sides, value))
        self.assertGreater(counts[True], 100)
        self.assertIs(ask(free_holds, 1, (0,), (2,), ("meet", (True,))), False)
        self.assertIs(ask(free_holds, 1, (0,), (2,), ("meet", (1,))), True)

    def test_rests_bent_at_any_depth(self):
        for rng, cycle, rests, sides in some_cases(233, 80, most=12):
            found = find_free(cycle, rests, sides)
            told = ("free", left(cycle, rests, sides)) if math.prod(sides) <= 60 else found
            for value in rng.sample(variants(told), min(40, len(variants(told)))) + damaged(rng, found, 10) + [told, found]:
                self.assertIs(ask(free_holds, cycle, rests, sides, value), holds(cycle, rests, sides, value), (cycle, rests, sides, value))

    def test_values_of_all_kinds(self):
        for cycle, rests, sides in ((6, (2, 3), (3, 2)), (1, (0,), (1,)), (4, (2,), (3,)), (2, (1,), (2,)), (720, (0, 1), (720, 720))):
            for value in ODD + tuple((word, told) for word in ("free", "meet", "Free", 0) for told in ODD):
                self.assertIs(ask(free_holds, cycle, rests, sides, value), holds(cycle, rests, sides, value), value)
        self.assertIs(ask(free_holds, 2, (1,), (2,), ("free", (False, 1))), False)
        self.assertIs(ask(free_holds, 2, (1,), (2,), ("free", (0, True))), False)
        self.assertIs(ask(free_holds, 2, (1,), (2,), ("free", [0, 1])), False)
        self.assertIs(ask(free_holds, 2, (1,), (2,), ("free", (1, 0))), False)

    def test_great_ones(self):
        self.same(ask(find_free, 720, (1,), (720,)), ("free", tuple(range(720))))
        self.same(ask(find_free, 720, (719,), (720,)), ("free", (0,) + tuple(range(719, 0, -1))))
        self.same(ask(find_free, 720, (24, 1), (30, 24)), ("free", tuple(range(720))))
        self.same(ask(is_tight, 720, (24, 1), (30, 24)), True)
        self.assertEqual(ask(find_free, 720, (24, 1), (24, 30))[0], "meet")
        for sides in ((720, 720), (720, 1), (1, 720), (27, 27), (2, 360)):
            self.assertEqual(ask(find_free, 719, (5, 20), sides)[0], "free" if math.prod(sides) <= 719 and free(719, (5, 20), sides) else "meet")


class Sides(Case):
    def test_against_a_reckoning(self):
        for cycle in list(range(1, 14)) + [16, 18, 24]:
            for width in (1, 2):
                chosen = list(itertools.product(range(cycle), repeat=width))
                for rests in chosen[::max(1, len(chosen) // 25)]:
                    served = {sides for sides in itertools.product(range(1, cycle + 2), repeat=width) if free(cycle, rests, sides)}
                    tight = tuple(sorted(sides for sides in served if math.prod(sides) == cycle))
                    greatest = tuple(sorted(sides for sides in served if not any(
                        sides[:at] + (sides[at] + 1,) + sides[at + 1:] in served for at in range(width))))
                    self.same(ask(tight_sides, cycle, rests), tight, cycle, rests)
                    self.same(ask(greatest_sides, cycle, rests), greatest, cycle, rests)
                    for sides in itertools.product(range(1, min(cycle, 6) + 2), repeat=width):
                        self.assertIs(ask(is_tight, cycle, rests, sides), sides in tight)

    def test_cycles_of_719_and_720(self):
        rng = random.Random(234)
        for cycle in (719, 720):
            for rests in [(0, 0), (1, 0), (0, 1), (1, cycle - 1), (24, 1), (7, 13)] + [some_rests(rng, cycle, 2) for _ in range(8)]:
                greatest = ask(greatest_sides, cycle, rests)
                self.assertEqual(greatest, tuple(sorted(set(greatest))))
                for sides in greatest:
                    self.assertTrue(free(cycle, rests, sides))
                    for at in (0, 1):
                        self.assertFalse(free(cycle, rests, sides[:at] + (sides[at] + 1,) + sides[at + 1:]))
                # Each second side that is the greatest one for its first side is that of greatest sides.
                for first in rng.sample(range(1, cycle + 1), 12):
                    second = max((b for a, b in greatest if a >= first), default=0)
                    self.assertEqual(second > 0 and free(cycle, rests, (first, second)), second > 0)
                    self.assertFalse(free(cycle, rests, (first, second + 1)))
                tight = [(side, cycle // side) for side in range(1, cycle + 1) if cycle % side == 0]
                self.same(ask(tight_sides, cycle, rests), tuple(sides for sides in tight if free(cycle, rests, sides)))
            for rest in (0, 1, 2, 360, cycle - 1):
                most = cycle // math.gcd(cycle, rest)
                self.same(ask(greatest_sides, cycle, (rest,)), ((most,),))
                self.same(ask(tight_sides, cycle, (rest,)), ((cycle,),) if most == cycle else ())
        self.same([tight_sides(1, (0,)), tight_sides(1, (0, 0)), greatest_sides(1, (0, 0))], [((1,),), ((1, 1),), ((1, 1),)])


def some_rests(rng, cycle, width):
    return tuple(rng.randrange(cycle) for _ in range(width))


class Worker(Case):
    def test_each_place_once_over_a_cycle(self):
        for rng, cycle, rests, sides in some_cases(235, 200, most=40):
            start, block, beat = rng.randint(-9, 9), some_vector(rng, len(sides), 5), rng.randint(-50, 50)
            places = list(itertools.product(*[range(k * side, (k + 1) * side) for k, side in zip(block, sides)]))
            if not free(cycle, rests, sides):
                self.raises(NotFree, {}, worker, cycle, rests, sides, start, block, beat)
                continue
            found = [ask(worker, cycle, rests, sides, start, block, at) for at in range(beat, beat + cycle)]
            self.assertEqual(sorted(place for place in found if place is not None), places)
            for at, place in enumerate(found, start=beat):
                if place is not None:
                    self.assertEqual((type(place), (at - start - dot(rests, place)) % cycle), (tuple, 0))

    def test_far_ones(self):
        for rng, cycle, rests, sides in some_cases(236, 150):
            if not free(cycle, rests, sides):
                self.raises(NotFree, {}, worker, cycle, rests, sides, -BIG, (BIG,) * len(sides), BIG)
                continue
            start, beat = rng.randint(-BIG, BIG), rng.randint(-BIG, BIG)
            block = some_vector(rng, len(sides), BIG)
            found = ask(worker, cycle, rests, sides, start, block, beat)
            near = ask(worker, cycle, rests, sides, 0, (0,) * len(sides), (beat - start - dot(rests, [k * s for k, s in zip(block, sides)])) % cycle)
            self.same(found, None if near is None else tuple(k * s + item for k, s, item in zip(block, sides, near)))
            if found is not None:
                self.assertEqual(tuple(item // side for item, side in zip(found, sides)), block)
                self.assertEqual((beat - start - dot(rests, found)) % cycle, 0)
        self.same([worker(6, (2, 3), (3, 2), 0, (1, 0), 5), worker(6, (2, 3), (2, 2), 1, (0, 0), 5)], [(4, 1), None])
        self.same(worker(1, (0, 0), (1, 1), 5, (-7, BIG), -3), (-7, BIG))


def some_rhythms(seed, step):
    """Directions with rows, canonical ones and others, and weights with a period of 1 or more."""
    rng = random.Random(seed)
    for dims in (2, 3):
        for direction in all_directions(dims)[::step if dims == 2 else 11 * step]:
            weights = some_vector(rng, dims, rng.choice((2, 5, 60)))
            if dot(weights, direction) != 0:
                rows = canonical_rows(direction)
                yield rng, weights, direction, rows
                yield rng, weights, direction, some_rows(rng, rows)


class Meetings(Case):
    def test_points_of_meeting_vectors(self):
        done = 0
        for rng, weights, direction, rows in some_rhythms(237, 1):
            every = abs(dot(weights, direction))
            rests = remainders(weights, direction, rows)
            sides = tuple(rng.choice((1, 2, 3, 5, 9, 720)) for _ in rows)
            tried = [vector for vector in all_vectors(len(rows), 4)] + [tuple(every * item for item in v) for v in all_vectors(len(rows), 1)]
            for vector in tried:
                if not meets(every, rests, sides, vector):
                    self.raises(NoMeeting, {"vector": vector}, meeting_points, weights, rows, sides, vector)
                    continue
                done += 1
                found = ask(meeting_points, weights, rows, sides, vector)
                self.assertEqual((type(found), len(found)), (tuple, 2))
                p, q = found
                self.assertTrue(all(type(v) is tuple and len(v) == len(weights) and all(map(is_int, v)) for v in found))
                place, other = [tuple(dot(row, v) for row in rows) for v in found]
                self.assertEqual(place, tuple(max(0, -item) for item in vector))
                self.assertEqual(other, tuple(a + b for a, b in zip(place, vector)))
                self.assertEqual([a // side for a, side in zip(place, sides)], [b // side for b, side in zip(other, sides)])
                self.assertTrue(dot(weights, p) == dot(weights, q) and 0 <= dot(weights, p) < every)
        self.assertGreater(done, 300)

    def test_vectors_that_are_none(self):
        flat, deep = (((2, 1), ((1, -1),), (4,)), ((1, 2, 3), ((1, 0, -1), (0, 1, -1)), (8, 8)))
        for (weights, rows, sides), good in ((flat, ((3,), (-3,))), (deep, tuple((a, b) for a in range(-7, 8) for b in range(-7, 8)
                                                                               if (a + 2 * b) % 6 == 0 and (a, b) != (0, 0)))):
            values = list(ODD) + [list(good[0]), good[0] + (0,), (0,) * len(rows), (True,) * len(rows), (3.0,) * len(rows), (good[0],)]
            values += [(4,), (-6,), (1,), (6, 8), (-8, 1), (1, 1), (False, 6), (6,), (3, 3, 3), "3", ("3",)]
            for vector in values:
                if vector in good and type(vector) is tuple and all(map(is_int, vector)):
                    continue
                self.raises(NoMeeting, {"vector": vector}, meeting_points, weights, rows, sides, vector)
            for vector in good:
                ask(meeting_points, weights, rows, sides, vector)
        self.same(meeting_points(*flat, (3,)), ((0, 0), (1, -2)))

    def check(self, weights, rows, sides, box):
        block = {}
        for point in points(box):
            key = (dot(weights, point), tuple(dot(row, point) // side for row, side in zip(rows, sides)))
            block.setdefault(key, []).append(point)
        pairs = [tuple(told[:2]) for told in block.values() if len(told) > 1]
        self.same(ask(box_meeting, weights, rows, sides, box), min(pairs, default=None), weights, rows, sides, box)
        return bool(pairs)

    def test_pairs_in_a_box(self):
        found = []
        for rng, weights, _, rows in some_rhythms(238, 2):
            for box in (((4, 3), (1, 7), (6, 6)) if len(weights) == 2 else ((2, 3, 4), (1, 1, 5), (3, 3, 3))):
                sides = tuple(rng.choice((1, 1, 2, 3, 7, 720)) for _ in rows)
                found.append(self.check(weights, rows, sides, box))
        self.assertGreater(min(found.count(True), found.count(False)), 60)

    def test_all_pairs_of_small_boxes(self):
        for rng, weights, _, rows in some_rhythms(239, 9):
            box, sides = (3, 4, 2)[:len(weights)], tuple(rng.randint(1, 4) for _ in rows)
            places = {p: tuple(dot(row, p) // side for row, side in zip(rows, sides)) for p in points(box)}
            pairs = [(p, q) for p, q in itertools.combinations(points(box), 2) if dot(weights, p) == dot(weights, q) and places[p] == places[q]]
            self.same(box_meeting(weights, rows, sides, box), min(pairs, default=None))

    def test_full_and_too_large_boxes(self):
        for rng, weights, _, rows in some_rhythms(240, 12):
            sides = tuple(rng.choice((1, 3, 50)) for _ in rows)
            for box in (((15, 16), (240, 1)) if len(weights) == 2 else ((6, 8, 5), (1, 240, 1))):
                self.check(weights, rows, sides, box)
            for box in (((241, 1), (16, 16), (10 ** 9,) * 2) if len(weights) == 2 else ((1, 1, 241), (5, 7, 7), (10 ** 9,) * 3)):
                self.raises(TooLarge, {"limit": 240}, box_meeting, weights, rows, sides, box)
        self.same(box_meeting((2, 1), ((1, -1),), (4,), (4, 3)), ((2, 2), (3, 0)))



if __name__ == "__main__":
    unittest.main()
