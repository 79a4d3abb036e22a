"""Promises 23 and 24: objects of beats."""

import random
import unittest

from support import ODD, Case, ask, damaged, dot, is_int, served, some_flow, some_vector
from test_beats import first_reason, some_delays
from test_starts import least, need
from test_ways import plain_rings

from wirebeats.beats import beats_error
from wirebeats.errors import BadBeats, BadFlow, BadWeights, NoNumber, NoPlane, NoPoint, NoStarts, OtherFlow, OtherWeights
from wirebeats.flows import flow_error
from wirebeats.starts import find_starts
from wirebeats.timings import Beats

F = (2, (("add", (0, (1, 0)), (0, (0, 1))),))
G = (2, (("copy", (1, (0, 0))), ("neg", (0, (1, 0)))))
LOOSE = (2, (("neg", (0, (1, 0))), ("neg", (1, (0, 1)))))


def added(one, number):
    return one + number


def taken(one, number):
    return one - number


def multiplied(one, number):
    return one * number


def smaller(one, other):
    return one & other


def greater(one, other):
    return one | other


def start_of(one, plane):
    return one[plane]


def tells(one):
    return (one.flow, one.value, one.weights, one.starts, one.delays, len(one), str(one), [one[plane] for plane in range(len(one))])


def text_of(weights, starts):
    return ",".join(map(str, weights)) + " " + " ".join(map(str, starts))


def some_objects(seed, many):
    rng = random.Random(seed)
    for at in range(many):
        flow, beats = served(rng, 2 + at % 2, 1 + at % 6)
        yield rng, flow, beats, Beats(flow, beats)


class Watched(Case):
    """What an operation returns or raises; the objects that it is done with must stay as they were."""

    def done(self, function, one, other):
        before = repr(tells(one))
        result, again = function(one, other), function(one, other)
        self.assertEqual(repr(tells(one)), before)
        self.assertIs(type(result), Beats)
        self.same(tells(again), tells(result))
        return result

    def refused(self, error_class, fields, function, one, other):
        before = repr(tells(one))
        self.raises(error_class, fields, function, one, other)
        self.assertEqual(repr(tells(one)), before)


class Making(Watched):
    def check(self, one, flow, weights, starts):
        delays = tuple(tuple(row) for row in some_delays(flow, (weights, starts)))
        expected = (flow, (weights, starts), weights, starts, delays, len(starts), text_of(weights, starts), list(starts))
        self.same(tells(one), expected)

    def test_from_beats(self):
        for _, flow, beats, one in some_objects(281, 80):
            self.check(one, flow, *beats)
            self.assertIs(one.flow, flow)
            self.assertIs(one.value, beats)

    def test_values_that_are_no_beats(self):
        rng = random.Random(282)
        for at in range(60):
            flow, beats = served(rng, 2 + at % 2, 1 + at % 6)
            values = damaged(rng, beats, 12) + [(beats[0], some_vector(rng, len(flow[1]), 60)), (some_vector(rng, flow[0], 60), beats[1])]
            for value in values:
                error = first_reason(flow, value)
                if error is None:
                    self.check(Beats(flow, value), flow, *value)
                else:
                    self.raises(BadBeats, {"error": error}, Beats, flow, value)
        for value in ODD:
            self.raises(BadBeats, {"error": first_reason(G, value)}, Beats, G, value)

    def test_flows_that_are_none(self):
        rng = random.Random(283)
        for at in range(40):
            flow, beats = served(rng, 2 + at % 2, 1 + at % 6)
            for value in damaged(rng, flow, 8):
                error = flow_error(value)
                if error is not None:
                    # The flow is looked at ahead of all else.
                    self.raises(BadFlow, {"error": error}, Beats, value, rng.choice((beats, None, ())))
                    self.raises(BadFlow, {"error": error}, Beats.least, value, rng.choice((beats[0], None, ())))
        for value in ODD:
            self.raises(BadFlow, {"error": flow_error(value)}, Beats, value, ((1, 1), (0,)))
            self.raises(BadFlow, {"error": flow_error(value)}, Beats.least, value, (1, 1))

    def test_with_the_least_starts(self):
        rng = random.Random(284)
        barred = 0
        for at in range(150):
            flow = some_flow(rng, 2 + at % 2, 1 + at % 4, 2)
            weights = some_vector(rng, flow[0], rng.choice((1, 5, 60)))
            if at % 2:
                flow, (weights, _) = served(rng, flow[0], len(flow[1]))
            word, told = find_starts(flow, weights)
            if word == "ring":
                barred += 1
                self.assertIn(told, plain_rings(flow))
                self.assertGreater(need(flow, weights, told), 0)
                self.raises(NoStarts, {"ring": told}, Beats.least, flow, weights)
            else:
                one = Beats.least(flow, weights)
                self.assertIs(type(one), Beats)
                self.same(tells(Beats.least(flow, weights)), tells(one))
                self.check(one, flow, weights, least(flow, weights))
        self.assertGreater(barred, 20)
        self.assertLess(barred, 100)

    def test_weights_that_are_none(self):
        rng = random.Random(285)
        for value in ODD + ((61, 0), (0, -61), (1, True), [1, 0], (1, 2, 3)) + tuple(damaged(rng, (2, 0), 40)):
            if not (type(value) is tuple and len(value) == 2 and all(is_int(item) and abs(item) <= 60 for item in value)):
                self.raises(BadWeights, {"vector": value}, Beats.least, G, value)
        self.raises(NoStarts, {"ring": ((0, 0), (1, 0))}, Beats.least, G, (1, 5))


class Asking(Watched):
    def test_beats_and_starts(self):
        for rng, flow, (weights, starts), one in some_objects(286, 60):
            for plane in range(len(starts)):
                self.same(ask(start_of, one, plane), starts[plane])
                for point in (some_vector(rng, flow[0], 9), some_vector(rng, flow[0], 10 ** 39), (0,) * flow[0]):
                    self.same(ask(one, plane, point), dot(weights, point) + starts[plane])

    def test_planes_and_points_that_are_none(self):
        one = Beats(G, ((5, 0), (3, 0)))
        for plane in ODD + (-1, 2, 10 ** 20):
            if not is_int(plane) or plane not in (0, 1):
                self.refused(NoPlane, {"plane": plane}, start_of, one, plane)
                for point in ((2, 9), None):
                    self.raises(NoPlane, {"plane": plane}, one, plane, point)
        for point in ODD + ((1, 2, 3), (1,), [2, 9], (2, True), (2, "9"), (2, None)):
            if not (type(point) is tuple and len(point) == 2 and all(is_int(item) for item in point)):
                self.raises(NoPoint, {"point": point}, one, 1, point)

    def test_no_loop(self):
        one = Beats(G, ((5, 0), (3, 0)))
        for loop in (iter, list, tuple, sum, max, lambda one: [start for start in one], lambda one: [*one]):
            self.assertRaises(TypeError, loop, one)

    def test_it_never_changes(self):
        flow = (2, (("copy", (1, (0, 0))), ("neg", (0, (1, 0)))))
        one, other = Beats(flow, ((5, 0), (3, 0))), Beats(flow, ((5, 0), (2, 1)))
        before = repr((tells(one), tells(other)))
        for change in (lambda: one + 4, lambda: one - 4, lambda: one * 3, lambda: one & other, lambda: one | other,
                       lambda: one == other, lambda: one(0, (1, 1)), lambda: one[1]):
            change()
            self.assertEqual(repr((tells(one), tells(other))), before)
        kept = one
        one += 4
        self.same((kept.starts, one.starts), ((3, 0), (7, 4)))


class Changing(Watched):
    def test_later_and_earlier(self):
        for rng, flow, (weights, starts), one in some_objects(287, 50):
            ends = (10000 - max(starts), -10000 - min(starts))
            for number in (0, 1, -1, 77, -77) + tuple(end + more for end in ends for more in (-1, 0, 1)) + (10 ** 39, -10 ** 39):
                for function, later in ((added, number), (taken, -number)):
                    value = (weights, tuple(start + later for start in starts))
                    error = first_reason(flow, value)
                    if error is None:
                        self.same(tells(self.done(function, one, number)), tells(Beats(flow, value)))
                    else:
                        self.refused(BadBeats, {"error": error}, function, one, number)
            self.assertTrue(one + 5 - 5 == one)

    def test_multiplied(self):
        refused = 0
        for rng, flow, (weights, starts), one in some_objects(288, 60):
            for number in (1, 2, 3, 7, 60, 61, 10001, 10 ** 39):
                value = (tuple(item * number for item in weights), tuple(start * number for start in starts))
                error = first_reason(flow, value)
                if error is None:
                    self.same(tells(self.done(multiplied, one, number)), tells(Beats(flow, value)))
                else:
                    refused += 1
                    self.refused(BadBeats, {"error": error}, multiplied, one, number)
        self.assertGreater(refused, 100)
        small = Beats(F, ((1, 1), (-3,)))
        self.same(tells(small * 60)[1], ((60, 60), (-180,)))
        self.refused(BadBeats, {"error": (0, "weight")}, multiplied, small, 61)
        late = Beats(F, ((1, 1), (5000,)))
        self.same((late * 2).starts, (10000,))
        self.refused(BadBeats, {"error": (0, "start")}, multiplied, late, 3)
        self.refused(BadBeats, {"error": (0, "start")}, multiplied, Beats(F, ((1, 1), (-3334,))), 3)

    def test_numbers_that_are_none(self):
        # Greater starts would be none, so NoNumber comes ahead of BadBeats.
        for one in (Beats(G, ((5, 0), (3, 0))), Beats(F, ((60, 60), (10000,)))):
            for number in ODD + ("1", (1,), [2]):
                if not is_int(number):
                    for function in (added, taken, multiplied):
                        self.refused(NoNumber, {"number": number}, function, one, number)
            for number in (0, -1, -2, -10 ** 39):
                self.refused(NoNumber, {"number": number}, multiplied, one, number)

    def test_both(self):
        for rng, flow, (weights, starts), one in some_objects(289, 80):
            others = []
            for _ in range(30):
                told = tuple(start + rng.randint(-9, 9) for start in starts)
                if beats_error(flow, (weights, told)) is None:
                    others.append(Beats(flow, (weights, told)))
            for other in others + [one, one + 3, one - 3, Beats.least(flow, weights)]:
                pairs = list(zip(starts, other.starts))
                self.same(tells(self.done(smaller, one, other)), tells(Beats(flow, (weights, tuple(min(pair) for pair in pairs)))))
                self.same(tells(self.done(greater, one, other)), tells(Beats(flow, (weights, tuple(max(pair) for pair in pairs)))))
                self.assertTrue(smaller(one, other) == smaller(other, one) and greater(one, other) == greater(other, one))
        one, other = Beats(LOOSE, ((5, 5), (3, 0))), Beats(LOOSE, ((5, 5), (-2, 1)))
        self.same(((one & other).starts, (one | other).starts), ((-2, 0), (3, 1)))

    def test_both_of_other_flows_and_weights(self):
        one = Beats(G, ((5, 0), (3, 0)))
        same = Beats((2, (("copy", (1, (0, 0))), ("neg", (0, (1, 0))))), ((5, 0), (2, 1)))
        self.same(((one & same).starts, (one | same).starts), ((2, 0), (3, 1)))
        for function in (smaller, greater):
            for other in ODD + (G, ((5, 0), (3, 0)), one.starts, Beats, "5,0 3 0"):
                self.refused(OtherFlow, {}, function, one, other)
            # Another flow and other weights, too: OtherFlow comes first.
            for other in (Beats(F, ((1, 1), (0,))), Beats(LOOSE, ((5, 5), (3, 0))), Beats((2, G[1][:1] + (("copy", (0, (1, 0))),)), ((5, 0), (3, 0))),
                          Beats((3, (("copy", (1, (0, 0, 0))), ("neg", (0, (1, 0, 0))))), ((5, 0, 0), (3, 0)))):
                self.refused(OtherFlow, {}, function, one, other)
            for weights in ((6, 0), (5, 1), (4, 0)):
                self.refused(OtherWeights, {}, function, one, Beats(G, (weights, (3, 0))))


class Comparing(Watched):
    def test_equality(self):
        one = Beats(G, ((5, 0), (3, 0)))
        equal = [Beats((2, (("copy", (1, (0, 0))), ("neg", (0, (1, 0))))), ((5, 0), (3, 0))), one + 4 - 4, one * 1, one & one, one | one]
        other = [Beats(G, ((5, 0), (2, 0))), Beats(G, ((5, 1), (3, 0))), Beats((2, G[1][:1] + (("copy", (0, (1, 0))),)), ((5, 0), (3, 0))),
                 one + 1, one * 2, Beats(F, ((1, 1), (0,))), Beats.least(G, (5, 0))]
        for value in equal:
            self.assertEqual((one == value, value == one, one != value, value != one), (True, True, False, False))
        for value in other + list(ODD) + [one.value, one.flow, str(one), (G, one.value), Beats]:
            self.assertEqual((one == value, value == one, one != value, value != one), (False, False, True, True))

    def test_equal_ones_answer_alike(self):
        for rng, flow, beats, one in some_objects(290, 40):
            like = Beats((flow[0], tuple(flow[1])), (beats[0], tuple(list(beats[1]))))
            self.assertTrue(one == like)
            self.same(tells(like), tells(one))
            self.same(tells(like + 7), tells(one + 7))
            self.same(tells(one * 1), tells(one))


if __name__ == "__main__":
    unittest.main()
