"""Promise 31: points that clash."""

import itertools
import random
import unittest

from support import ODD, Case, all_directions, ask, damaged, dot, is_int, some_vector
from test_lines import SMALL, no_directions
from test_words import inside, points

from wirebeats.clashes import clash_holds, find_clash
from wirebeats.errors import BadDirection
from wirebeats.lines import steps_between

GREAT = 10 ** 9


def on_line(direction, one, other):
    return any(tuple(a + k * u for a, u in zip(one, direction)) == other for k in range(-12, 13))


def clashes(box, weights, direction):
    """All pairs of points that clash."""
    return [(one, other) for one, other in itertools.permutations(points(box), 2)
            if dot(weights, one) == dot(weights, other) and on_line(direction, one, other)]


def holds(box, weights, direction, value):
    if type(value) is not tuple or not value or type(value[0]) is not str:
        return False
    if value[0] == "clash" and len(value) == 3:
        for point in value[1:]:
            if type(point) is not tuple or len(point) != len(box) or not all(is_int(item) for item in point) or not inside(box, point):
                return False
        one, other = value[1:]
        return one != other and dot(weights, one) == dot(weights, other) and steps_between(direction, one, other) is not None
    if len(value) != 2 or not is_int(value[1]):
        return False
    every = abs(dot(weights, direction))
    if value[0] == "period":
        return value[1] == every != 0
    return value[0] == "side" and value[1] in range(len(box)) and box[value[1]] <= abs(direction[value[1]])


def flat_weights(rng, direction):
    """Weights whose product with the direction is 0, of any size up to 60."""
    while True:
        weights = some_vector(rng, len(direction), rng.choice((2, 60)))
        at = next(at for at, item in enumerate(direction) if item)
        rest = dot(weights, direction) - weights[at] * direction[at]
        if rest % direction[at] == 0 and abs(rest // direction[at]) <= 60:
            return weights[:at] + (-rest // direction[at],) + weights[at + 1:]


class Clashes(Case):
    def check(self, box, weights, direction):
        found = ask(find_clash, box, weights, direction)
        self.assertTrue(holds(box, weights, direction, found), (box, weights, direction, found))
        self.assertIs(ask(clash_holds, box, weights, direction, found), True)
        every = abs(dot(weights, direction))
        serve = [i for i, size in enumerate(box) if size <= abs(direction[i])]
        if every:
            self.same(found, ("period", every))
        else:
            self.assertEqual(found[0], "side" if serve else "clash")
        for i in range(-1, len(box) + 1):
            self.assertIs(ask(clash_holds, box, weights, direction, ("side", i)), i in serve)
        return found

    def test_small_boxes(self):
        rng = random.Random(211)
        words = []
        for dims in (2, 3):
            for direction in all_directions(dims)[::1 if dims == 2 else 9]:
                for box in SMALL[dims]:
                    for weights in (flat_weights(rng, direction), some_vector(rng, dims, 3)):
                        found = self.check(box, weights, direction)
                        words.append(found[0])
                        if len(points(box)) <= 30:
                            self.assertEqual(found[0] == "clash", bool(clashes(box, weights, direction)))
        self.assertTrue(all(words.count(word) > 50 for word in ("clash", "period", "side")))

    def test_great_boxes(self):
        rng = random.Random(212)
        for at in range(300):
            dims = 2 + at % 2
            direction = rng.choice(all_directions(dims))
            box = tuple(rng.choice((1, 2, 4, 5, GREAT, rng.randint(1, GREAT))) for _ in range(dims))
            self.check(box, flat_weights(rng, direction), direction)
            self.check(box, some_vector(rng, dims, 60), direction)
        self.same(self.check((GREAT, GREAT), (0, 0), (1, 1))[0], "clash")
        self.same(self.check((GREAT, 4), (3, 2), (2, -3))[0], "clash")
        self.same(self.check((GREAT, 3), (3, 2), (2, -3)), ("side", 1))
        self.same(self.check((GREAT,) * 3, (60, 60, -60), (4, -4, 3)), ("period", 180))
        self.same([find_clash((3, 1), (1, -1), (1, 1)), find_clash((3, 2), (1, -1), (0, 1))], [("side", 1), ("period", 1)])

    def test_pairs(self):
        rng = random.Random(213)
        counts = {True: 0, False: 0}
        for at in range(100):
            dims = 2 + at % 2
            direction = rng.choice(all_directions(dims, 1 + at % 2))
            box = rng.choice(SMALL[dims])
            weights = flat_weights(rng, direction) if at % 3 else some_vector(rng, dims, 2)
            pairs = clashes(box, weights, direction) if len(points(box)) <= 30 else []
            for one, other in rng.sample(pairs, min(20, len(pairs))):
                self.assertIs(ask(clash_holds, box, weights, direction, ("clash", one, other)), True)
                self.assertIs(ask(clash_holds, box, weights, direction, ("clash", one, one)), False)
            for _ in range(30):
                one, other = rng.choice(points(box)), rng.choice(points(box))
                if rng.random() < 0.3:
                    other = tuple(a + u for a, u in zip(one, direction))
                right = holds(box, weights, direction, ("clash", one, other))
                counts[right] += 1
                self.assertIs(ask(clash_holds, box, weights, direction, ("clash", one, other)), right)
                for value in (("clash", (one, other)), ("Clash", one, other), ("clash", list(one), other), ("clash", one, list(other)),
                              ["clash", one, other], ("clash", one, other, 0), ("clash", one), ("side", one, other), ("clash", one + (0,), other),
                              ("clash", one[:-1], other[:-1]), ("clash", one, other + (0,)), ("period", one, other)):
                    self.assertIs(ask(clash_holds, box, weights, direction, value), False, value)
        self.assertGreater(min(counts.values()), 100)

    def test_far_pairs(self):
        box, weights, direction = (GREAT, GREAT, GREAT), (3, -3, 0), (1, 1, -1)
        for one, other, right in (((0, 0, GREAT - 1), (GREAT - 1, GREAT - 1, 0), True), ((GREAT - 1, GREAT - 1, 0), (0, 0, GREAT - 1), True),
                                  ((0, 0, GREAT - 1), (GREAT, GREAT, -1), False), ((0, 0, GREAT - 1), (GREAT - 1, GREAT - 1, 1), False),
                                  ((5, 4, 3), (5, 4, 3), False), ((5, 4, 3), (6, 5, 2), True), ((True, 4, 3), (2, 5, 2), False)):
            self.assertIs(ask(clash_holds, box, weights, direction, ("clash", one, other)), right)
            self.assertIs(ask(clash_holds, box, (3, -3, 1), direction, ("clash", one, other)), False)

    def test_values(self):
        rng = random.Random(214)
        for box, weights, direction in (((3, 1), (1, -1), (1, 1)), ((3, 2), (1, -1), (0, 1)), ((3, 2), (1, -1), (1, 1)), ((1, 1, 1), (0, 0, 1), (1, 4, -1)),
                                        ((5, 5, 5), (1, 2, 3), (1, 1, -1)), ((1, 1), (2, 0), (1, 2))):
            found = find_clash(box, weights, direction)
            values = list(ODD) + damaged(rng, found, 150) + [(word, told) for word in ("period", "side", "clash") for told in ODD]
            for value in values + [("period", number) for number in range(-3, 4)]:
                self.assertIs(ask(clash_holds, box, weights, direction, value), holds(box, weights, direction, value), value)

    def test_directions_that_are_none(self):
        for dims in (2, 3):
            box, weights = (4, 3, 2)[:dims], (1, 2, 3)[:dims]
            for direction in no_directions(dims):
                self.raises(BadDirection, {"direction": direction}, find_clash, box, weights, direction)
                for value in (None, ("period", 1), ("side", 0)):
                    self.raises(BadDirection, {"direction": direction}, clash_holds, box, weights, direction, value)


if __name__ == "__main__":
    unittest.main()
