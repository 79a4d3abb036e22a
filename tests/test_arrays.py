"""Promises 37 to 40: arrays."""

import itertools
import math
import random
import unittest

from support import KINDS, ODD, Case, all_directions, are_place_rows, ask, damaged, dot, is_int, served, some_rows
from support import some_vector

from wirebeats.arrays import array_error, array_of, flow_holds, gains, is_array, parts, read_back
from wirebeats.errors import Flat, OutOfReach, TooLarge, Unfit
from wirebeats.flows import is_flow
from wirebeats.places import canonical_rows

GREAT = 10 ** 6
A = (2, (1,), (0,), (("add", (0, (1,), 1), (0, (-1,), 1)),))
B = (6, (2, 3), (5, -7), (("copy", (1, (1, -1), 11)), ("madd", (0, (0, 0), 18), (1, (3, 1), 3), (0, (-2, 3), 5))))


def made(matrix, vector):
    return tuple(dot(row, vector) for row in matrix)


def reasons(value):
    """All reasons why value is no array, in the order of the document."""
    if type(value) is not tuple or len(value) != 4:
        yield (None, "array")
        return
    period, rests, starts, rules = value
    if not is_int(period) or not 1 <= period <= GREAT:
        yield (None, "period")
        return
    if type(rests) is not tuple or len(rests) not in (1, 2) or any(not is_int(r) or r not in range(period) for r in rests):
        yield (None, "remainders")
    if type(rules) is not tuple or not 1 <= len(rules) <= 6:
        yield (None, "rules")
        return
    if type(starts) is not tuple or len(starts) != len(rules) or any(not is_int(s) or abs(s) > GREAT for s in starts):
        yield (None, "starts")
    for plane, rule in enumerate(rules):
        kind = rule[0] if type(rule) is tuple and rule else None
        if type(kind) is not str or KINDS.get(kind) != len(rule) - 1:
            yield (plane, "rule")
            continue
        for operand, tap in enumerate(rule[1:]):
            word = tap_word(value, plane, tap)
            if word:
                yield ((plane, operand), word)


def tap_word(array, plane, tap):
    period, rests, starts, rules = array
    if type(tap) is not tuple or len(tap) != 3:
        return "tap"
    source, step, delay = tap
    if not is_int(source) or source not in range(len(rules)):
        return "source"
    if type(step) is not tuple or len(step) != len(rests) or any(not is_int(s) or abs(s) > GREAT for s in step):
        return "step"
    if not is_int(delay) or not 1 <= delay <= GREAT:
        return "delay"
    gain = delay - starts[plane] + starts[source]
    return None if gain % period == dot(rests, step) % period else "gain"


def first_reason(value):
    return next(reasons(value), None)


def some_array(rng, width, planes, most=5, period=None):
    """An array with so many planes and a period of any size."""
    period = period or rng.choice((1, 2, 3, 6, 720, 10 ** 6))
    rests = tuple(rng.randrange(period) for _ in range(width))
    starts = some_vector(rng, planes, 20)
    rules = []
    for plane in range(planes):
        kind = rng.choice(sorted(KINDS))
        taps = []
        for _ in range(KINDS[kind]):
            source, step = rng.randrange(planes), some_vector(rng, width, most)
            least = dot(rests, step) + starts[plane] - starts[source]
            delay = (least - 1) % period + 1
            if delay + period <= GREAT and rng.random() < 0.3:
                delay += period
            taps.append((source, step, delay))
        rules.append((kind, *taps))
    return (period, rests, starts, tuple(rules))


def with_steps(width, *steps):
    """An array with these steps, six of them at most in one plane's rules."""
    taps = [(0, step, 1) for step in steps]
    rules = tuple(("copy", tap) for tap in taps)
    return (1, (0,) * width, (0,) * len(rules), rules)


class ArrayErrors(Case):
    def check(self, value, *expected):
        reason = expected[0] if expected else first_reason(value)
        self.same(first_reason(value), reason)
        self.same(ask(array_error, value), reason, value)
        self.assertIs(ask(is_array, value), reason is None)

    def test_arrays(self):
        rng = random.Random(61)
        for at in range(200):
            self.check(some_array(rng, 1 + at % 2, 1 + at % 6, rng.choice((2, 1000, GREAT))), None)
        self.check(A, None)
        self.check(B, None)

    def test_frames(self):
        for value in ((), A[:3], A + (0,), list(A), None, {}, 4, "array"):
            self.check(value, (None, "array"))
        for period in (0, -1, GREAT + 1, True, False, None, "2", (2,), 10 ** 39):
            self.check((period, None, None, None), (None, "period"))
        for rests in ((), (0, 0, 0), [1], (2,), (-1,), (True,), (False,), (None,), None, 1, (1, 2), (1, False), "1"):
            self.check((2, rests, None, None), (None, "remainders"))
        for rules in ((), A[3] * 7, list(A[3]), None, "add", {}):
            self.check((2, (1,), None, rules), (None, "rules"))
        for starts in ((), (0, 0), [0], (True,), (False,), (None,), None, (GREAT + 1,), (-GREAT - 1,), ("0",)):
            self.check(A[:2] + (starts, ((),)), (None, "starts"))
        self.check(A[:3] + (((),),), (0, "rule"))

    def test_bounds(self):
        great = (GREAT, (GREAT - 1,), (GREAT,), (("copy", (0, (GREAT,), GREAT)),))
        self.check(great, None)
        self.check((GREAT + 1,) + great[1:], (None, "period"))
        self.check(great[:1] + ((GREAT,),) + great[2:], (None, "remainders"))
        self.check(great[:2] + ((-GREAT,),) + great[3:], None)
        self.check(great[:2] + ((GREAT + 1,),) + great[3:], (None, "starts"))
        self.check(great[:3] + ((("copy", (0, (GREAT + 1,), 1)),),), ((0, 0), "step"))
        self.check(great[:3] + ((("copy", (0, (-GREAT - 1,), 1)),),), ((0, 0), "step"))
        self.check(great[:3] + ((("copy", (0, (-GREAT,), GREAT)),),), None)
        self.check(great[:3] + ((("copy", (0, (GREAT,), GREAT + 1)),),), ((0, 0), "delay"))
        self.check(great[:3] + ((("copy", (0, (-1,), 1)),),), None)
        self.check(great[:3] + ((("copy", (0, (-1,), 0)),),), ((0, 0), "delay"))
        self.check(great[:3] + ((("copy", (0, (0,), 1)),),), ((0, 0), "gain"))
        self.check((1, (0,), (-GREAT, GREAT), (("copy", (1, (0,), 1)), ("neg", (0, (7,), GREAT)))), None)

    def test_rules_and_taps(self):
        good = (0, (1,), 1)
        for rule in ((), ("add", good), ["add", good, good], ("plus", good, good), (None, good), ("add", good, good, good),
                     ({}, good), "add", None, ("Copy", good)):
            self.check(A[:3] + ((rule,),), (0, "rule"))
        for tap in ((), (0, (1,)), [0, (1,), 1], (0, (1,), 1, 1), None, 0, "tap"):
            self.check(A[:3] + ((("add", good, tap),),), ((0, 1), "tap"))
        for source in (-1, 1, True, False, None, "0", (0,), [0], 10 ** 39):
            self.check(A[:3] + ((("add", good, (source, None, None)),),), ((0, 1), "source"))
        for step in ((), (1, 1), [1], 1, None, (True,), (None,), ("1",), (GREAT + 1,), (10 ** 39,), ((1,),)):
            self.check(A[:3] + ((("add", good, (0, step, None)),),), ((0, 1), "step"))
        for delay in (0, -1, True, False, None, "1", (1,), GREAT + 1, 10 ** 39):
            self.check(A[:3] + ((("add", good, (0, (1,), delay)),),), ((0, 1), "delay"))
        for delay in range(1, 8):
            self.check(A[:3] + ((("add", good, (0, (1,), delay)),),), None if delay % 2 else ((0, 1), "gain"))
        self.check(A[:3] + ((("add", (0, (1,), 2), None),),), ((0, 0), "gain"))

    def test_gain_is_told_with_both_starts(self):
        for starts, delays, reason in (((0, 0), (1, 5), None), ((0, 0), (6, 10), None), ((2, 0), (3, 3), None),
                                       ((2, 0), (8, 13), None), ((0, 2), (4, 2), None), ((12, 10), (3, 3), None),
                                       ((2, 0), (1, 5), ((0, 0), "gain")), ((2, 0), (3, 5), ((1, 0), "gain")),
                                       ((2, 0), (4, 2), ((0, 0), "gain")), ((0, 0), (1, 4), ((1, 0), "gain")),
                                       ((-1, 0), (5, 1), None), ((-1, 0), (5, 2), ((1, 0), "gain"))):
            rules = (("copy", (1, (1,), delays[0])), ("neg", (0, (0,), delays[1])))
            self.check((5, (1,), starts, rules), reason)

    def test_odd_and_damaged(self):
        for value in ODD:
            self.check(value)
        rng = random.Random(62)
        wrong = 0
        for at in range(60):
            array = some_array(rng, 1 + at % 2, 1 + at % 4)
            for value in damaged(rng, array, 30):
                self.check(value)
                wrong += first_reason(value) is not None
        self.assertGreater(wrong, 2000)


class ArrayOf(Case):
    def test_arrays_of_flows(self):
        rng = random.Random(63)
        done = 0
        for direction in all_directions(2) + all_directions(3)[::2]:
            dims = len(direction)
            flow, beats = served(rng, dims, rng.randint(1, 4))
            weights, starts = beats
            for rows in (canonical_rows(direction), some_rows(rng, canonical_rows(direction))):
                period = abs(dot(weights, direction))
                if period == 0:
                    self.raises(Flat, {}, array_of, flow, beats, direction, rows)
                    continue
                done += 1
                array = ask(array_of, flow, beats, direction, rows)
                self.assertIsNone(first_reason(array))
                self.assertTrue(is_array(array))
                self.same((array[0], array[2]), (period, starts))
                for at in range(dims):
                    unit = tuple(int(k == at) for k in range(dims))
                    self.assertEqual((dot(array[1], made(rows, unit)) - weights[at]) % period, 0)
                for plane, (rule, told) in enumerate(zip(flow[1], array[3])):
                    taps = [(q, made(rows, d), dot(weights, d) + starts[plane] - starts[q]) for q, d in rule[1:]]
                    self.same(told, (rule[0], *taps))
                expected = tuple(tuple(dot(weights, d) for _, d in rule[1:]) for rule in flow[1])
                self.same(ask(gains, array), expected)
        self.assertGreater(done, 300)

    def test_flat_then_too_large(self):
        flow, rows = (3, (("copy", (0, (4, -4, 1))),)), ((1, 250001, -250002), (0, 1, -1))
        self.raises(TooLarge, {"limit": 10 ** 6}, array_of, flow, ((1, 0, 0), (0,)), (1, 1, 1), rows)
        self.raises(Flat, {}, array_of, flow, ((2, 1, -3), (0,)), (1, 1, 1), rows)

    def test_greatest_step(self):
        # The step is 4 * many, or -4 * many, and one step more.
        for many, more, right in ((249999, 0, True), (250000, 0, True), (-250000, 0, True), (250000, 1, False),
                                  (-250000, -1, False), (249999, 1, True)):
            rows = ((1, 0, -1), (many, 1, -many - 1))
            flow = (3, (("copy", (0, (4, more, 0))),))
            beats = ((1, 1, 0), (0,))
            if right:
                self.same(ask(array_of, flow, beats, (1, 1, 1), rows)[3][0][1][1], (4, 4 * many + more))
            else:
                self.raises(TooLarge, {"limit": 10 ** 6}, array_of, flow, beats, (1, 1, 1), rows)
        flow = (3, (("add", (0, (1, 0, 0)), (0, (4, 1, 0))),))
        rows = ((250000, 1, -250001), (1, 0, -1))
        self.raises(TooLarge, {"limit": 10 ** 6}, array_of, flow, ((1, 1, 0), (0,)), (1, 1, 1), rows)


class Gains(Case):
    def test_gains(self):
        rng = random.Random(64)
        for at in range(100):
            array = some_array(rng, 1 + at % 2, 1 + at % 6)
            starts = array[2]
            expected = tuple(tuple(tap[2] - starts[k] + starts[tap[0]] for tap in rule[1:]) for k, rule in enumerate(array[3]))
            self.same(ask(gains, array), expected)
        self.same(ask(gains, B), ((-1,), (30, 3, 17)))


class Parts(Case):
    def test_one_item(self):
        for steps, many in (((1,), 1), ((0,), 0), ((0, 0, 0), 0), ((4, -6), 2), ((-5,), 5), ((6, 10, 15), 1), ((0, 7), 7),
                            ((GREAT, GREAT), GREAT), ((GREAT, -GREAT + 1), 1), ((12, 18, -30), 6), ((-9, 0, 6), 3)):
            self.same(ask(parts, with_steps(1, *[(step,) for step in steps])), many)

    def test_two_items(self):
        for steps, many in ((((1, 0),), 0), (((0, 0), (0, 0)), 0), (((1, 0), (0, 1)), 1), (((2, 0), (0, 3)), 6),
                            (((1, 2), (2, 4), (-3, -6)), 0), (((2, 4), (4, 2)), 12), (((2, 4), (4, 2), (3, 3)), 6),
                            (((2, 2), (2, -2), (4, 0)), 8), (((0, 5), (0, 3), (1, 0)), 1), (((0, 0), (3, 1), (0, 7)), 21),
                            (((GREAT, 0), (0, GREAT)), GREAT ** 2), (((GREAT, GREAT), (GREAT, -GREAT)), 2 * GREAT ** 2),
                            (((GREAT, GREAT - 1), (GREAT - 1, GREAT - 2)), 1), (((6, 0), (0, 6), (2, 3)), 6),
                            (((GREAT, GREAT), (-GREAT, -GREAT)), 0), (((1, 1), (2, 2), (0, 0)), 0)):
            self.same(ask(parts, with_steps(2, *steps)), many)

    def test_steps_of_a_known_number_of_parts(self):
        rng = random.Random(65)
        for _ in range(150):
            one, other = rng.randint(1, 12), rng.randint(0, 12)
            sides = some_rows(rng, ((one, 0), (rng.randint(-9, 9), other)))
            steps = list(sides)
            for _ in range(rng.randint(0, 4)):
                counts = some_vector(rng, 2, 3)
                steps.append(tuple(counts[0] * a + counts[1] * b for a, b in zip(*sides)))
            rng.shuffle(steps)
            self.same(ask(parts, with_steps(2, *steps)), one * other)

    def test_counted_parts(self):
        rng = random.Random(66)
        for _ in range(60):
            steps = [some_vector(rng, 2, 4) for _ in range(rng.randint(2, 4))]
            areas = [abs(a * d - b * c) for (a, b), (c, d) in itertools.combinations(steps, 2) if a * d != b * c]
            found = ask(parts, with_steps(2, *steps))
            if not areas:
                self.assertEqual(found, 0)
                continue
            # Shifts by this number lead to the same part, so it is enough to look modulo it.
            modulo, seen, work = areas[0], {(0, 0)}, [(0, 0)]
            while work:
                here = work.pop()
                for step in steps:
                    there = ((here[0] + step[0]) % modulo, (here[1] + step[1]) % modulo)
                    if there not in seen:
                        seen.add(there)
                        work.append(there)
            self.assertEqual(found * len(seen), modulo ** 2)


    def test_against_the_areas_of_all_pairs(self):
        seen = set()
        for rng, width, steps in some_steps(72, 600):
            many = parts_of(width, steps)
            seen.add(min(many, 3))
            array = with_rules(width, steps, rng)
            self.same(ask(parts, array), many, array)
            for _ in range(2):
                rules = rng.sample(array[3], len(array[3]))
                self.same(ask(parts, array[:3] + (tuple(rules),)), many)
        self.assertEqual(seen, {0, 1, 2, 3})


def parts_of(width, steps):
    """The number of parts by the greatest common divisor of all lengths, or of the areas of all pairs."""
    if width == 1:
        return math.gcd(*[step[0] for step in steps])
    return math.gcd(0, *[a * d - b * c for (a, b), (c, d) in itertools.combinations(steps, 2)])


def some_steps(seed, many):
    """Steps of one and of two items, from 1 to 18 of them, of all sorts."""
    rng = random.Random(seed)
    for at in range(many):
        width, count = 1 + at % 2, rng.randint(1, 18)
        most = rng.choice((1, 3, 12, 1000, GREAT))
        steps = [some_vector(rng, width, most) for _ in range(count)]
        if at % 5 == 1:
            steps = [(0,) * width for _ in steps]
        elif at % 5 == 2:
            along = some_vector(rng, width, 5)
            steps = [tuple(number * item for item in along) for number in (rng.randint(-GREAT // 5, GREAT // 5) for _ in steps)]
        elif at % 5 == 3:
            number = rng.choice((2, 3, 12, GREAT))
            steps = [tuple(number * rng.randint(-GREAT // number, GREAT // number) for _ in step) for step in steps]
        elif at % 5 == 4:
            steps = [tuple(rng.choice((-GREAT, GREAT, GREAT - 1, 1 - GREAT, 0)) for _ in step) for step in steps]
        yield rng, width, steps


def with_rules(width, steps, rng):
    """An array of period 1 with rules of all kinds that have just these steps."""
    rules, rest = [], list(steps)
    while rest:
        least = max(1, len(rest) - 3 * (5 - len(rules)))
        kind = rng.choice([kind for kind, many in KINDS.items() if least <= many <= len(rest)])
        rules.append((kind, *[(0, rest.pop(), 1) for _ in range(KINDS[kind])]))
    return (1, (0,) * width, (0,) * len(rules), tuple(rules))


def some_readings(seed, many_of_each=1):
    """Flows with the arrays that array_of makes of them, and the rows, weights and direction of these."""
    rng = random.Random(seed)
    for direction in all_directions(2) + all_directions(3)[::2]:
        for _ in range(many_of_each):
            flow, beats = served(rng, len(direction), rng.randint(1, 4))
            rows = some_rows(rng, canonical_rows(direction), 2)
            if dot(beats[0], direction) != 0:
                yield rng, flow, array_of(flow, beats, direction, rows), rows, beats[0], direction


def distances_changed(flow, new):
    """The flow with other vectors in the place of its distances, told by plane, operand and distance."""
    rules = []
    for plane, (kind, *reads) in enumerate(flow[1]):
        rules.append((kind, *[(q, new(plane, operand, d)) for operand, (q, d) in enumerate(reads)]))
    return (flow[0], tuple(rules))


def first_far(flow):
    far = [(plane, operand) for plane, rule in enumerate(flow[1]) for operand, read in enumerate(rule[1:])
           if max(abs(item) for item in read[1]) > 4]
    return far[0] if far else None


def fit(array, rows, weights):
    """Whether rows and weights fit the array, straight from the words of the document."""
    matrix = rows + (weights,)
    if len(matrix) == 2:
        size = matrix[0][0] * matrix[1][1] - matrix[0][1] * matrix[1][0]
    else:
        size = sum(matrix[0][a] * (matrix[1][b] * matrix[2][c] - matrix[1][c] * matrix[2][b])
                   for a, b, c in ((0, 1, 2), (1, 2, 0), (2, 0, 1)))
    if size not in (array[0], -array[0]):
        return False
    return all((weight - sum(r * row[axis] for r, row in zip(array[1], rows))) % array[0] == 0
               for axis, weight in enumerate(weights))


class ReadBack(Case):
    def check_reading(self, array, rows, weights, expected):
        """expected is a flow with vectors of any size."""
        far = first_far(expected)
        if far is None:
            self.same(ask(read_back, array, rows, weights), expected)
            self.assertIs(ask(flow_holds, array, rows, weights, expected), True)
        else:
            self.raises(OutOfReach, {"plane": far[0], "operand": far[1]}, read_back, array, rows, weights)
            self.assertIs(ask(flow_holds, array, rows, weights, expected), False)
        return far is None

    def test_leads_back(self):
        for _, flow, array, rows, weights, _ in some_readings(67, 2):
            self.assertTrue(fit(array, rows, weights))
            self.assertTrue(self.check_reading(array, rows, weights, flow))

    def test_other_weights(self):
        reached = [0, 0]
        for rng, flow, array, rows, weights, direction in some_readings(68):
            for _ in range(3):
                counts = some_vector(rng, len(rows), 1)
                sign = rng.choice((1, 1, -1))
                other = tuple(sign * w + array[0] * dot(counts, [row[at] for row in rows]) for at, w in enumerate(weights))
                if not fit(array, rows, other):
                    self.raises(Unfit, {}, read_back, array, rows, other)
                    continue
                if sign < 0:
                    continue
                whole = dot(weights, direction)

                def moved(plane, operand, distance):
                    many = -array[0] * dot(counts, array[3][plane][operand + 1][1]) // whole
                    return tuple(item + many * move for item, move in zip(distance, direction))
                reached[self.check_reading(array, rows, other, distances_changed(flow, moved))] += 1
        self.assertGreater(min(reached), 50)

    def test_unfit(self):
        unfit = 0
        for rng, flow, array, rows, weights, _ in some_readings(69):
            cases = [(rows, tuple(2 * w for w in weights)), (rows, tuple(-w for w in weights)), (rows[::-1], weights),
                     (tuple(tuple(2 * item for item in row) for row in rows), weights), (rows, (0,) * len(weights))]
            for at in range(len(weights)):
                cases.append((rows, weights[:at] + (weights[at] + rng.choice((1, -1)),) + weights[at + 1:]))
            for case in cases:
                if fit(array, *case):
                    self.assertIs(ask(flow_holds, array, *case, None), False)
                    continue
                unfit += 1
                self.raises(Unfit, {}, read_back, array, *case)
                self.raises(Unfit, {}, flow_holds, array, *case, flow)
                self.raises(Unfit, {}, flow_holds, array, *case, None)
        self.assertGreater(unfit, 500)

    def test_both_parts_of_fitting_are_asked(self):
        rows = ((1, -1),)
        self.same(ask(read_back, A, rows, (1, 1)), (2, (("add", (0, (1, 0)), (0, (0, 1))),)))
        # The determinant is right, a remainder is not; then the other way round.
        self.raises(Unfit, {}, read_back, A, rows, (0, 2))
        self.raises(Unfit, {}, read_back, A, rows, (3, 1))
        self.raises(Unfit, {}, read_back, A, ((3, -3),), (1, 1))
        self.same(ask(read_back, A, rows, (-1, -1)), (2, (("add", (0, (0, -1)), (0, (-1, 0))),)))
        self.same(ask(read_back, A, ((-1, 1),), (1, 1)), (2, (("add", (0, (0, 1)), (0, (1, 0))),)))

    def test_rows_of_two(self):
        flow = (3, (("sub", (0, (1, 2, -1)), (0, (4, -4, 4))),))
        beats, direction = ((20, 3, 7), (3,)), (1, -1, 2)
        rows = canonical_rows(direction)
        array = array_of(flow, beats, direction, rows)
        self.assertTrue(self.check_reading(array, rows, beats[0], flow))
        self.raises(Unfit, {}, read_back, array, rows, (20, 3, 8))
        self.raises(Unfit, {}, read_back, array, rows[::-1], beats[0])
        turned = (array[0], array[1][::-1], array[2], tuple(
            (rule[0], *[(q, step[::-1], delay) for q, step, delay in rule[1:]]) for rule in array[3]))
        self.assertTrue(self.check_reading(turned, rows[::-1], beats[0], flow))

    def test_first_tap_out_of_reach(self):
        def array(*steps):
            return (1, (0,), (0, 0), (("add", (0, steps[0], 4), (1, steps[1], 1)), ("copy", (0, steps[2], 1))))
        rows, weights = ((1, 0),), (0, 1)
        for steps, tap in ((((5,), (5,), (5,)), (0, 0)), (((4,), (-5,), (5,)), (0, 1)), (((4,), (-4,), (5,)), (1, 0)),
                           (((4,), (-4,), (0,)), None)):
            if tap:
                self.raises(OutOfReach, {"plane": tap[0], "operand": tap[1]}, read_back, array(*steps), rows, weights)
                self.assertIs(ask(flow_holds, array(*steps), rows, weights, None), False)
            else:
                flow = (2, (("add", (0, (4, 4)), (1, (-4, 1))), ("copy", (0, (0, 1)))))
                self.same(ask(read_back, array(*steps), rows, weights), flow)
        late = (1, (0,), (0,), (("copy", (0, (0,), 5)),))
        self.raises(OutOfReach, {"plane": 0, "operand": 0}, read_back, late, rows, weights)
        self.raises(Unfit, {}, read_back, late, rows, (0, 2))

    def test_great_rows(self):
        rows, weights = ((GREAT, GREAT - 1),), (1 - GREAT, 2 - GREAT)
        self.assertTrue(fit((1, (0,)), rows, weights))
        array = (1, (0,), (3,), (("copy", (0, (1,), 1)),))
        self.raises(OutOfReach, {"plane": 0, "operand": 0}, read_back, array, rows, weights)
        step, gain = dot(rows[0], (-2, 2)), dot(weights, (-2, 2))
        array = (1, (0,), (3,), (("copy", (0, (step,), gain)),))
        self.same(ask(read_back, array, rows, weights), (2, (("copy", (0, (-2, 2))),)))


class FlowHolds(Case):
    def test_other_values(self):
        flow = (2, (("add", (0, (1, 0)), (0, (0, 1))),))
        for value in ODD + (flow[1], [2, flow[1]], (True, flow[1]), (2, list(flow[1]))):
            self.assertIs(ask(flow_holds, A, ((1, -1),), (1, 1), value), False)
        self.assertIs(ask(flow_holds, A, ((1, -1),), (1, 1), flow), True)
        for wrong in (((True, 0), (0, 1)), ((1, False), (0, 1)), ((1, 0), (0, True)), ([1, 0], (0, 1)), ((1, 0), (1, 0))):
            value = (2, (("add", (0, wrong[0]), (0, wrong[1])),))
            self.assertIs(ask(flow_holds, A, ((1, -1),), (1, 1), value), False)
        self.assertIs(ask(flow_holds, A, ((1, -1),), (1, 1), (2, (("add", (False, (1, 0)), (0, (0, 1))),))), False)

    def test_one_thing_other(self):
        for rng, flow, array, rows, weights, _ in some_readings(70):
            for value in damaged(rng, flow, 4):
                self.assertIs(ask(flow_holds, array, rows, weights, value), repr(value) == repr(flow))
            for plane in range(len(flow[1])):
                other = distances_changed(flow, lambda k, x, d: d[::-1] if k == plane else d)
                self.assertTrue(is_flow(other))
                self.assertIs(ask(flow_holds, array, rows, weights, other), other == flow)


class Helpers(Case):
    def test_rows_of_the_tests_are_place_rows(self):
        for _, _, _, rows, _, direction in some_readings(71):
            self.assertTrue(are_place_rows(direction, rows))


if __name__ == "__main__":
    unittest.main()
