"""Promises 44 to 46: arrays that are one, and arrays as objects."""

import random
import unittest

from support import KINDS, ODD, Case, all_directions, ask, damaged, dot, is_int, served, some_vector
from test_arrays import made, parts_of, some_array, some_steps, with_rules
from test_runs import FEEDS, FIELD, drawn

from wirebeats.alike import Array, change_holds, find_change, moved
from wirebeats.arrays import array_error, array_of, gains, is_array, parts
from wirebeats.errors import BadArray, BadLags, BadMatrix, Flat, Late, NoNumber, NoPlane, Parted, TooLarge
from wirebeats.places import canonical_rows
from wirebeats.runs import run

A = (2, (1,), (0,), (("add", (0, (1,), 1), (0, (-1,), 1)),))
C = A[:3] + ((("add", (0, (1,), 1), (0, (1,), 1)),),)
GREAT = 10 ** 6
UNITS = {1: ((1,),), 2: ((1, 0), (0, 1))}


def det(matrix):
    return matrix[0][0] if len(matrix) == 1 else matrix[0][0] * matrix[1][1] - matrix[0][1] * matrix[1][0]


def is_matrix(width, value):
    if type(value) is not tuple or len(value) != width:
        return False
    if any(type(row) is not tuple or len(row) != width or not all(is_int(item) for item in row) for row in value):
        return False
    return det(value) in (1, -1)


def inverse(matrix):
    if len(matrix) == 1:
        return matrix
    (a, b), (c, d) = matrix
    return tuple(tuple(item * det(matrix) for item in row) for row in ((d, -b), (-c, a)))


def changed(array, matrix, lags):
    """The array behind a change, whatever its delays and its items are."""
    every, rests, starts, rules = array
    back = inverse(matrix)
    rests = tuple(sum(rest * row[at] for rest, row in zip(rests, back)) % every for at in range(len(rests)))
    rules = tuple((rule[0], *[(q, made(matrix, step), delay + lags[k] - lags[q]) for q, step, delay in rule[1:]])
                  for k, rule in enumerate(rules))
    return (every, rests, tuple(start + lag for start, lag in zip(starts, lags)), rules)


def some_matrix(rng, width, rounds=5):
    """A matrix of a change: steps of adding one row to the other one, and turned signs."""
    rows = [list(row) for row in UNITS[width]]
    for _ in range(rounds):
        one, other = rng.randrange(width), rng.randrange(width)
        if one != other:
            many = rng.randint(-2, 2)
            rows[one] = [a + many * b for a, b in zip(rows[one], rows[other])]
        elif rng.random() < 0.4:
            rows[one] = [-item for item in rows[one]]
    return tuple(tuple(row) for row in rows)


def taps(array):
    return [(k, x, tap) for k, rule in enumerate(array[3]) for x, tap in enumerate(rule[1:])]


def slack(array, rng):
    """Lags with which no delay gets too small: found by trial."""
    for _ in range(200):
        lags = some_vector(rng, len(array[3]), rng.choice((1, 3, 9)))
        if all(tap[2] + lags[k] - lags[tap[0]] >= 1 for k, _, tap in taps(array)):
            return lags
    return (rng.randint(-9, 9),) * len(array[3])


def whole_arrays(seed, many, period=None):
    """Arrays with just one part."""
    rng = random.Random(seed)
    found = 0
    while found < many:
        array = some_array(rng, 1 + found % 2, rng.randint(1, 6), rng.choice((1, 2, 30, GREAT)), period)
        if parts(array) == 1:
            found += 1
            yield rng, array


def replaced(array, plane, operand, tap):
    rules = [list(rule) for rule in array[3]]
    rules[plane][operand + 1] = tap
    return array[:3] + (tuple(tuple(rule) for rule in rules),)


def form(array):
    return (len(array[1]), array[0], tuple((rule[0], *[tap[0] for tap in rule[1:]]) for rule in array[3]))


def sums(array, counts):
    steps = [tap[1] for _, _, tap in taps(array)]
    return tuple(sum(many * step[at] for many, step in zip(counts, steps)) for at in range(len(array[1])))


def right(one, other, value):
    """Whether value is right evidence, by the words of the document."""
    if type(value) is not tuple or not value or type(value[0]) is not str:
        return False
    word, told = value[0], value[1:]
    if word == "change" and len(told) == 2:
        matrix, lags = told
        if not is_matrix(len(one[1]), matrix) or type(lags) is not tuple or len(lags) != len(one[3]):
            return False
        return all(is_int(lag) for lag in lags) and changed(one, matrix, lags) == other
    unlike = form(one) != form(other)
    if word == "form" and not told:
        return unlike
    if word == "gain" and len(told) == 2:
        if unlike or not all(is_int(item) for item in told) or told not in [(k, x) for k, x, _ in taps(one)]:
            return False
        return gains(one)[told[0]][told[1]] != gains(other)[told[0]][told[1]]
    if word == "steps" and len(told) == 1:
        counts = told[0]
        if unlike or type(counts) is not tuple or len(counts) != len(taps(one)):
            return False
        if not all(is_int(item) and abs(item) < 10 ** 30 for item in counts):
            return False
        return any(sums(one, counts)) != any(sums(other, counts))
    return False


class Moved(Case):
    def test_moved_arrays(self):
        rng = random.Random(131)
        done = 0
        for at in range(300):
            array = some_array(rng, 1 + at % 2, 1 + at % 6, rng.choice((1, 5, 1000)))
            matrix, lags = some_matrix(rng, 1 + at % 2), slack(array, rng)
            expected = changed(array, matrix, lags)
            if array_error(expected) is None:
                done += 1
                self.same(ask(moved, array, matrix, lags), expected, array, matrix, lags)
                self.same(gains(expected), gains(array))
                for _ in range(3):
                    place = some_vector(rng, len(array[1]), 10 ** 6)
                    there = dot(expected[1], made(matrix, place))
                    self.assertEqual((there - dot(array[1], place)) % array[0], 0)
                self.same(ask(moved, expected, inverse(matrix), tuple(-lag for lag in lags)), array)
        self.assertGreater(done, 250)

    def test_works_at_other_places_and_beats(self):
        rng = random.Random(132)
        for at in range(60):
            array, field, feeds = drawn(rng, 1 + at % 2, 1 + at % 3)
            matrix, lags = some_matrix(rng, 1 + at % 2, 2), slack(array, rng)
            other = ask(moved, array, matrix, lags)
            there = tuple(sorted((made(matrix, place), begin, many) for place, begin, many in field))
            told = tuple(sorted((k, made(matrix, place), beat + lags[k], word) for k, place, beat, word in feeds))
            expected = sorted((beat + lags[k], made(matrix, place), k, word) for beat, place, k, word in run(array, field, feeds))
            self.same(run(other, there, told), tuple(expected))

    def test_matrices_that_are_none(self):
        two = (1, (0, 0), (0,), (("neg", (0, (1, 0), 1)),))
        for array, width in ((A, 1), (two, 2)):
            values = list(ODD) + [((0,),), ((2,),), ((-1,),), ((1,),), ((1, 0), (0, 1)), ((1, 1), (1, 1)), ((2, 0), (0, 1)),
                                  ((1, 2), (3, 4)), ((0, 1), (1, 0)), ((3, 2), (4, 3)), ((3, 2), (1, 1)), ((True,),), [(1,)],
                                  ([1],), ((None,),), (("1",),), ((1, 0), [0, 1]), [(1, 0), (0, 1)], ((True, 0), (0, 1)),
                                  ((1, False), (0, 1)), ((1, 0), (0, 1), (0, 0)), ((1, 0),), ((1, 0, 0), (0, 1, 0)), (1,), 1,
                                  ((1, 10 ** 39), (0, 1)), ((10 ** 39, 1), (1, 0)), ((0, 0), (0, 0)), ((1, 0), (0,)), ((), ())]
            values += damaged(random.Random(133), UNITS[width], 80)
            wrong = 0
            for value in values:
                if not is_matrix(width, value):
                    wrong += 1
                    self.raises(BadMatrix, {"matrix": value}, moved, array, value, (0,))
                    self.raises(BadMatrix, {"matrix": value}, moved, array, value, None)
                    self.raises(BadMatrix, {"matrix": value}, lambda matrix: Array(array) // matrix, value)
                else:
                    self.ends(ending(array, value, (0,)), moved, array, value, (0,))
            self.assertGreater(wrong, 150)

    def test_lags_that_are_none(self):
        for value in ODD + ((0, 0), (0,), (7,), (-7,), [0], (True,), (False,), (None,), ((0,),), ("0",), (GREAT,), (GREAT + 1,)):
            if type(value) is tuple and len(value) == 1 and is_int(value[0]):
                self.ends(ending(A, ((1,),), value), moved, A, ((1,),), value)
            else:
                self.raises(BadLags, {"lags": value}, moved, A, ((1,),), value)
                self.raises(BadMatrix, {"matrix": ((2,),)}, moved, A, ((2,),), value)
                self.raises(BadLags, {"lags": value}, lambda lags: Array(A) >> lags, value)

    def test_late_and_beyond(self):
        two = (1, (0,), (0, 0), (("add", (0, (1,), 3), (1, (GREAT,), 5)), ("copy", (0, (2,), GREAT - 2))))
        for lags, matrix, ends in (((0, 0), ((1,),), None), ((0, 5), ((1,),), (Late, 0, 1)), ((0, 4), ((1,),), (Late, 1, 0)),
                                   ((0, 2), ((1,),), None), ((0, 3), ((1,),), (Late, 1, 0)), ((10 ** 39, 0), ((1,),), (Late, 0, 1)),
                                   ((-10 ** 39,) * 2, ((1,),), (BadArray, None, "starts")), ((0, -10 ** 39), ((1,),), (Late, 0, 1)),
                                   ((GREAT, GREAT), ((-1,),), None), ((GREAT + 1,) * 2, ((-1,),), (BadArray, None, "starts")),
                                   ((-GREAT, -GREAT), ((1,),), None), ((-GREAT - 1, -GREAT - 1), ((1,),), (BadArray, None, "starts")),
                                   ((0, -999995), ((1,),), None if GREAT - 2 - 999995 >= 1 else (Late, 1, 0))):
            expected = ending(two, matrix, lags)
            if ends is None:
                self.assertEqual(expected[0], "value", lags)
            elif ends[0] is Late:
                self.assertEqual(expected, (Late, {"plane": ends[1], "operand": ends[2]}), lags)
            else:
                self.assertEqual(expected, (BadArray, {"error": ends[1:]}), lags)
            self.ends(expected, moved, two, matrix, lags)
        flat = (1, (0, 0), (0,), (("sub", (0, (1, 500000), 1), (0, (500001, 0), 1)),))
        for matrix, error in ((((1, 1), (0, 1)), None), (((1, 2), (0, 1)), ((0, 0), "step")), (((1, 1), (1, 2)), ((0, 0), "step")),
                              (((1, 0), (1, 1)), None), (((1, 0), (2, 1)), ((0, 1), "step"))):
            expected = ending(flat, matrix, (3,))
            self.assertEqual(expected[1] if error else expected[0], {"error": error} if error else "value")
            self.ends(expected, moved, flat, matrix, (3,))

    def test_drawn_endings(self):
        rng = random.Random(134)
        ends = {}
        for at in range(300):
            array = some_array(rng, 1 + at % 2, 1 + at % 4, rng.choice((2, GREAT)))
            lags = some_vector(rng, len(array[3]), rng.choice((2, GREAT, 10 ** 39)))
            if at % 3 == 0:
                lags = (rng.choice((0, 2 * GREAT)),) * len(lags)
            expected = ending(array, some_matrix(rng, 1 + at % 2), lags)
            ends[expected[0]] = ends.get(expected[0], 0) + 1
            matrix = some_matrix(rng, 1 + at % 2)
            self.ends(ending(array, matrix, lags), moved, array, matrix, lags)
        self.assertGreater(min(ends.get(end, 0) for end in ("value", Late, BadArray)), 20)


def ending(array, matrix, lags):
    """How moved must end for a right matrix and right lags."""
    other = changed(array, matrix, lags)
    for plane, operand, tap in taps(other):
        if not 1 <= tap[2] <= GREAT:
            return (Late, {"plane": plane, "operand": operand})
    error = array_error(other)
    return ("value", other) if error is None else (BadArray, {"error": error})


class Changes(Case):
    def check(self, one, other):
        found = ask(find_change, one, other)
        self.assertTrue(right(one, other, found), (one, other, found))
        self.assertIs(ask(change_holds, one, other, found), True)
        return found

    def test_moved_arrays_are_found(self):
        for rng, array in whole_arrays(135, 200):
            matrix, lags = some_matrix(rng, len(array[1])), slack(array, rng)
            if array_error(changed(array, matrix, lags)) is None:
                self.same(self.check(array, moved(array, matrix, lags)), ("change", matrix, lags))
            self.same(self.check(array, array), ("change", UNITS[len(array[1])], (0,) * len(array[3])))

    def test_arrays_of_one_flow_by_other_rows(self):
        rng = random.Random(136)
        found = 0
        for direction in all_directions(3, 1):
            flow, beats = served(rng, 3, 3)
            rows = canonical_rows(direction)
            if dot(beats[0], direction) == 0:
                continue
            one = array_of(flow, beats, direction, rows)
            other = array_of(flow, beats, direction, tuple(made(zip(*rows), row) for row in some_matrix(rng, 2)))
            if parts(one) == 1:
                found += 1
                self.assertEqual(self.check(one, other)[0], "change")
        self.assertGreater(found, 5)

    def test_other_forms(self):
        for rng, array in whole_arrays(137, 60):
            every, rests, starts, rules = array
            others = [some_array(rng, 3 - len(rests), len(rules), 2, every), some_array(rng, len(rests), len(rules) % 6 + 1, 2, every)]
            for kind in KINDS:
                if KINDS[kind] == len(rules[0]) - 1:
                    others.append(array[:3] + (((kind,) + rules[0][1:],) + rules[1:],))
            others.append((2 * every, tuple(2 * r for r in rests), tuple(2 * s for s in starts), tuple(
                (rule[0], *[(q, step, 2 * delay) for q, step, delay in rule[1:]]) for rule in rules)))
            for plane, operand, (_, step, _) in taps(array)[:3]:
                for source in range(len(rules)):
                    delay = (dot(rests, step) + starts[plane] - starts[source] - 1) % every + 1
                    others.append(replaced(array, plane, operand, (source, step, delay)))
            for other in others:
                if not is_array(other) or parts(other) != 1:
                    continue
                found = self.check(array, other)
                self.assertEqual(found == ("form",), form(array) != form(other))
                self.assertIs(ask(change_holds, array, other, ("form",)), form(array) != form(other))

    def test_other_gains(self):
        for rng, array in whole_arrays(138, 100):
            many = rng.choice((1, 2))
            other = array
            for plane, operand, (source, step, delay) in rng.sample(taps(array), min(many, len(taps(array)))):
                other = replaced(other, plane, operand, (source, step, delay + array[0]))
            if not is_array(other):
                continue
            self.assertEqual(self.check(array, other)[0], "gain")
            for plane, operand, _ in taps(array):
                differs = gains(array)[plane][operand] != gains(other)[plane][operand]
                self.assertIs(ask(change_holds, array, other, ("gain", plane, operand)), differs)
        one = (1, (0,), (5, 0), (("copy", (1, (1,), 6)), ("neg", (0, (1,), 1))))
        other = (1, (0,), (0, 0), (("copy", (1, (1,), 6)), ("neg", (0, (1,), 1))))
        self.same([ask(change_holds, one, other, ("gain", plane, 0)) for plane in (0, 1, 2, -1, True)], [True, True] + [False] * 3)

    def test_taps_that_are_none(self):
        rules = (("add", (0, (1,), 1), (1, (2,), 1)), ("neg", (0, (1,), 1)), ("madd", (0, (0,), 1), (1, (0,), 1), (2, (0,), 1)))
        one, other = (1, (0,), (0, 0, 0), rules), (1, (0,), (0, 0, 7), rules)
        planes = list(range(-4, 6)) + [True, False, None, "0", (0,), 10 ** 39]
        for plane in planes:
            for operand in planes:
                differs = is_int(plane) and is_int(operand) and (plane, operand) in ((2, 0), (2, 1))
                self.assertIs(ask(change_holds, one, other, ("gain", plane, operand)), differs, (plane, operand))
        self.same(self.check(one, other), ("gain", 2, 0))

    def test_other_widths_alone(self):
        deep = (1, (0, 0), (0,), (("add", (0, (1, 0), 1), (0, (0, 1), 1)),))
        flat = (1, (0,), (0,), (("add", (0, (1,), 1), (0, (0,), 1)),))
        for one, other in ((deep, flat), (flat, deep)):
            self.same(self.check(one, other), ("form",))
            for value in (("gain", 0, 0), ("steps", (0, 1)), ("steps", (1, 0)), ("change", UNITS[1], (0,)), ("change", UNITS[2], (0,))):
                self.assertIs(ask(change_holds, one, other, value), False)

    def test_other_steps(self):
        words = {}
        for rng, array in whole_arrays(139, 250, 1):
            plane, operand, (source, step, delay) = rng.choice(taps(array))
            new = tuple(item + rng.choice((0, 1, -1, 5)) for item in step)
            if max(map(abs, new)) > GREAT:
                continue
            other = replaced(array, plane, operand, (source, new, delay))
            if parts(other) != 1:
                continue
            found = self.check(array, other)
            words[found[0]] = words.get(found[0], 0) + 1
            for value in (found[:-1] + (tuple(2 * item for item in found[-1]),), found[:-1] + ((0,) * len(taps(array)),)):
                self.assertIs(ask(change_holds, array, other, value), right(array, other, value))
        self.assertGreater(words["steps"], 50)
        self.assertGreater(words["change"], 5)

    def test_steps_of_great_arrays(self):
        rng = random.Random(140)
        for at in range(60):
            one, other = [(1, (0,) * (1 + at % 2), (0,) * 6, tuple(("madd", *[(0, some_vector(rng, 1 + at % 2, GREAT), 1)
                          for _ in range(3)]) for _ in range(6))) for _ in range(2)]
            if parts(one) == 1 and parts(other) == 1:
                self.assertEqual(self.check(one, other)[0], "steps")

    def test_remainders_are_told_by_the_steps(self):
        one = (5, (2,), (0,), (("add", (0, (1,), 2), (0, (-1,), 3)),))
        other = (5, (3,), (0,), (("add", (0, (-1,), 2), (0, (1,), 3)),))
        self.same(self.check(one, other), ("change", ((-1,),), (0,)))

    def test_parted(self):
        two = (1, (0,), (0,), (("neg", (0, (2,), 1)),))
        none = (1, (0,), (0,), (("neg", (0, (0,), 1)),))
        for one, other, number in ((two, two, 2), (two, none, 2), (none, two, 0), (A, two, 2), (A, none, 0), (two, A, 2),
                                   (none, A, 0), (none, none, 0)):
            self.raises(Parted, {"number": number}, find_change, one, other)
            for value in (("form",), None, ("change", ((1,),), (0,))):
                self.raises(Parted, {"number": number}, change_holds, one, other, value)

    def test_arrays_of_up_to_18_taps(self):
        ends = {}
        for rng, width, steps in some_steps(151, 400):
            array = with_rules(width, steps, rng)
            many = parts_of(width, steps)
            if many != 1:
                for value in (None, ("form",), ("change", UNITS[width], (0,) * len(array[3]))):
                    self.raises(Parted, {"number": many}, change_holds, array, array, value)
                self.raises(Parted, {"number": many}, find_change, array, array)
                continue
            matrix = some_matrix(rng, width, 2)
            other = changed(array, matrix, (0,) * len(array[3]))
            plane, operand, (source, step, delay) = rng.choice(taps(other))
            nearly = replaced(other, plane, operand, (source, tuple(-item for item in step), delay))
            exchanged = array[:3] + (tuple(rng.sample(array[3], len(array[3]))),)
            for told in (other, nearly, exchanged):
                if is_array(told) and parts(told) == 1:
                    word = self.check(array, told)[0]
                    ends[word] = ends.get(word, 0) + 1
                    for value in ODD + (("change", UNITS[width], (0,) * len(array[3])), ("change", matrix, (1,) * len(array[3]))):
                        self.assertIs(ask(change_holds, array, told, value), right(array, told, value))
        self.assertTrue(all(ends.get(word, 0) > 20 for word in ("change", "steps", "form")), ends)

    def test_evidence_changed_in_one_place(self):
        counts = {True: 0, False: 0}
        for rng, array in whole_arrays(141, 80):
            other = changed(array, some_matrix(rng, len(array[1]), 1), slack(array, rng)) if rng.random() < 0.5 else array
            if rng.random() < 0.4:
                plane, operand, (source, step, delay) = rng.choice(taps(other))
                other = replaced(other, plane, operand, (source, tuple(-item for item in step), delay))
            if not is_array(other) or parts(other) != 1:
                continue
            found = self.check(array, other)
            values = damaged(rng, found, 20) + [("form",), ("gain", 0, 0), ("steps", (0,) * len(taps(array))),
                                                ("steps", (1,) * len(taps(array))), ("change", UNITS[len(array[1])], (0,) * len(array[3]))]
            for value in values:
                self.assertIs(ask(change_holds, array, other, value), right(array, other, value), (array, other, value))
                counts[right(array, other, value)] += 1
        self.assertGreater(counts[False], 2000)
        self.assertGreater(counts[True], 20)

    def test_other_values(self):
        other = A[:2] + ((3,),) + A[3:]
        for value in ODD + (["change", ((1,),), (3,)], ("change", [(1,)], (3,)), ("change", ((True,),), (3,)), ("change", ((1,),), [3]),
                            ("change", ((1,),), (3, 0)), ("change", ((1,),)), ("change", ((-1,),), (3,)), ("change", ((1,),), (2,)),
                            ("Change", ((1,),), (3,)), ("form",), ("form", 1), "form", ("gain", 0, 0), ("gain", 0), ("steps", (0, 0)),
                            ("steps",), ("steps", (2, 2)), ("steps", (1, 1)), ("change", ((2,),), (3,)), ("change", ((0,),), (3,))):
            self.assertIs(ask(change_holds, A, other, value), False, value)
        self.assertIs(ask(change_holds, A, other, ("change", ((1,),), (3,))), True)
        self.assertIs(ask(change_holds, A, other[:1] + ((1,), (True,)) + A[3:], ("change", ((1,),), (1,))), True)

    def test_counts_with_many_digits(self):
        for most, digits in ((10 ** 30 - 1, True), (10 ** 30, False), (1 - 10 ** 30, True), (-10 ** 30, False), (10 ** 39, False)):
            self.assertIs(ask(change_holds, A, C, ("steps", (most, most))), digits)
            self.assertIs(ask(change_holds, C, A, ("steps", (most, -most))), digits)
            self.assertIs(ask(change_holds, A, C, ("steps", (most, most - 1))), False)
        for value in ((True, True), (2, True), (2,), (2, 2, 0), [2, 2], (None, None), ("2", "2"), (0, 0), (1, 2)):
            self.assertIs(ask(change_holds, A, C, ("steps", value)), False)
        self.assertIs(ask(change_holds, A, C, ("steps", (1, 1))), True)
        self.assertIs(ask(change_holds, A, C, ("steps", (-1, 1))), True)


def array_tells(one):
    return (one.value, one.period, one.width, one.rules, one.parts, len(one), str(one), [one[at] for at in range(len(one))])


class Arrays(Case):
    def test_what_they_tell(self):
        rng = random.Random(142)
        seen = set()
        for at in range(100):
            array = some_array(rng, 1 + at % 2, 1 + at % 6, rng.choice((1, 3)))
            one = Array(array)
            many = parts(array)
            seen.add(many)
            text = f"{len(array[3])} planes, width {len(array[1])}, period {array[0]}, {many} parts"
            self.same(array_tells(one), (array, array[0], len(array[1]), array[3], many, len(array[3]), text, list(array[3])))
            self.assertTrue(one == Array(array) and not one != Array(array))
        self.assertLessEqual({0, 1, 2}, seen)
        self.assertEqual(str(Array(A)), "1 planes, width 1, period 2, 1 parts")

    def test_values_that_are_none(self):
        rng = random.Random(143)
        wrong = 0
        for value in list(ODD) + damaged(rng, A, 100) + damaged(rng, some_array(rng, 2, 3), 200):
            error = array_error(value)
            if error is not None:
                wrong += 1
                self.raises(BadArray, {"error": error}, Array, value)
        self.assertGreater(wrong, 400)

    def test_made_of_flows(self):
        rng = random.Random(144)
        for direction in all_directions(2, 2) + all_directions(3, 1):
            flow, beats = served(rng, len(direction), rng.randint(1, 3))
            rows = canonical_rows(direction)
            if dot(beats[0], direction) == 0:
                self.raises(Flat, {}, Array.of, flow, beats, direction, rows)
                continue
            one = Array.of(flow, beats, direction, rows)
            self.assertIs(type(one), Array)
            self.same(one.value, array_of(flow, beats, direction, rows))
        flow, rows = (3, (("copy", (0, (4, -4, 1))),)), ((1, 250001, -250002), (0, 1, -1))
        self.raises(TooLarge, {"limit": GREAT}, Array.of, flow, ((1, 0, 0), (0,)), (1, 1, 1), rows)
        self.raises(Flat, {}, Array.of, flow, ((2, 1, -3), (0,)), (1, 1, 1), rows)

    def test_planes_and_loops(self):
        one = Array(some_array(random.Random(145), 2, 2))
        for plane in ODD + (-1, 2, slice(0, 1)):
            if is_int(plane) and plane in (0, 1):
                self.assertIs(one[plane], one.rules[plane])
            else:
                self.raises(NoPlane, {"plane": plane}, lambda at: one[at], plane)
        for loop in (iter, list, tuple):
            with self.assertRaises(TypeError):
                loop(one)

    def test_runs(self):
        rng = random.Random(146)
        for at in range(30):
            array, field, feeds = drawn(rng, 1 + at % 2, 1 + at % 4)
            self.same(Array(array)(field, feeds), run(array, field, feeds))
        self.same(Array(A)(FIELD, FEEDS), run(A, FIELD, FEEDS))

    def test_changes_by_signs(self):
        rng = random.Random(147)
        for at in range(120):
            array = some_array(rng, 1 + at % 2, 1 + at % 4, rng.choice((2, GREAT)))
            one = Array(array)
            matrix, lags = some_matrix(rng, 1 + at % 2), some_vector(rng, len(array[3]), rng.choice((3, GREAT, 10 ** 39)))
            for act, expected in ((lambda: one // matrix, ending(array, matrix, (0,) * len(lags))),
                                  (lambda: one >> lags, ending(array, UNITS[1 + at % 2], lags))):
                if expected[0] == "value":
                    self.assertIs(type(act()), Array)
                    self.same(act().value, expected[1])
                else:
                    self.raises(expected[0], expected[1], act)
            self.same(array_tells(one), array_tells(Array(array)))
        self.same((Array(A) // ((-1,),))[0], ("add", (0, (-1,), 1), (0, (1,), 1)))
        self.same((Array(A) >> (5,)).value, A[:2] + ((5,),) + A[3:])

    def test_periods(self):
        rng = random.Random(152)
        for at in range(40):
            array = some_array(rng, 1 + at % 2, 1 + at % 4, 3, rng.choice((1, 2, 30, 1000)))
            one = Array(array)
            for other, every in ((one, array[0]), (one // some_matrix(rng, 1 + at % 2, 1), array[0]), (one >> (7,) * len(one), array[0]),
                                 (one * 3, 3 * array[0]), (one * 3 // UNITS[1 + at % 2] * 2, 6 * array[0])):
                self.same((other.period, other.value[0]), (every, every))
        of = Array.of((2, (("neg", (0, (1, 0))),)), ((5, -2), (0,)), (1, -1), ((1, 1),))
        self.same((of.period, (of * 4).period, (of >> (1,)).period), (7, 28, 7))
        with self.assertRaises(AttributeError):
            of.period = 3

    def test_times(self):
        rng = random.Random(148)
        for at in range(60):
            array = some_array(rng, 1 + at % 2, 1 + at % 4, 5, rng.choice((1, 2, 720, 10 ** 5)))
            one = Array(array)
            for number in (1, 2, 7, 1000, GREAT, 10 ** 39):
                expected = (array[0] * number, tuple(r * number for r in array[1]), tuple(s * number for s in array[2]), tuple(
                    (rule[0], *[(q, step, delay * number) for q, step, delay in rule[1:]]) for rule in array[3]))
                if array_error(expected) is None:
                    self.same((one * number).value, expected)
                else:
                    self.raises(BadArray, {"error": array_error(expected)}, lambda n: one * n, number)
        for number in ODD + (0, -1, (2,), "2"):
            if not is_int(number) or number < 1:
                self.raises(NoNumber, {"number": number}, lambda n: Array(A) * n, number)
        self.raises(BadArray, {"error": (None, "period")}, lambda: Array(A) * 500001)
        self.same((Array(A) * 500000).value[:2], (GREAT, (500000,)))
        late = (1, (0,), (-3, 0), (("neg", (1, (0,), 4)), ("neg", (0, (1,), 400000))))
        self.raises(BadArray, {"error": ((1, 0), "delay")}, lambda: Array(late) * 3)
        self.raises(BadArray, {"error": (None, "starts")}, lambda: Array(late) * 333334)

    def test_equality(self):
        one = Array(A)
        for value in ODD + (A, list(A), str(one), one.rules, Array(C)):
            self.assertFalse(one == value)
            self.assertTrue(one != value)
            self.assertFalse(value == one)
        self.assertTrue(one // ((1,),) == one and one >> (0,) == one and one * 1 == one)


if __name__ == "__main__":
    unittest.main()
