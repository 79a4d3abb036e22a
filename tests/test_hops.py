"""Promises 58 to 60: reads that are passed on."""

import itertools
import random
import unittest

from support import ODD, Case, ask, damaged, dot, is_int, served, some_vector, variants
from test_words import inside, reckoned, some_outside

from wirebeats.beats import beats_error
from wirebeats.errors import BadHops, BadOutside, NoOperand, NoPlane, TooLarge, TooMany, TooShort
from wirebeats.flows import is_flow, reads_of
from wirebeats.hops import hops_error, relayed, relayed_beats, relayed_outside
from wirebeats.words import outside_error, words_of

G = (2, (("neg", (0, (1, 2))),))


def reasons(distance, value):
    if type(value) is not tuple or not 2 <= len(value) <= 6:
        return (None, "hops")
    for index, hop in enumerate(value):
        if type(hop) is not tuple or len(hop) != len(distance) or not all(is_int(item) for item in hop):
            return (index, "hop")
        if any(item not in range(min(0, whole), max(0, whole) + 1) for item, whole in zip(hop, distance)):
            return (index, "hop")
    return None if tuple(map(sum, zip(*value))) == distance else (None, "sum")


def some_hops(rng, distance, many):
    """So many hops that go towards a distance."""
    hops = [[0] * len(distance) for _ in range(many)]
    for axis, item in enumerate(distance):
        for _ in range(abs(item)):
            rng.choice(hops)[axis] += 1 if item > 0 else -1
    return tuple(tuple(hop) for hop in hops)


def ending(flow, plane, operand, hops):
    """The relayed flow, or the error, by the words of the document."""
    dims, rules = flow
    if not is_int(plane) or plane not in range(len(rules)):
        return (NoPlane, {"plane": plane})
    if not is_int(operand) or operand not in range(len(rules[plane]) - 1):
        return (NoOperand, {"operand": operand})
    source, distance = rules[plane][operand + 1]
    if reasons(distance, hops):
        return (BadHops, {"error": reasons(distance, hops)})
    if len(rules) + len(hops) - 1 > 6:
        return (TooMany, {"limit": 6})
    rules = [list(rule) for rule in rules]
    for hop in hops[:-1]:
        rules.append(["copy", (source, hop)])
        source = len(rules) - 1
    rules[plane][operand + 1] = (source, hops[-1])
    return ("value", (dims, tuple(tuple(rule) for rule in rules)))


def some_reads(seed, many, most_planes=6):
    """Served flows with a read of theirs and hops for it."""
    rng = random.Random(seed)
    for at in range(many):
        flow, beats = served(rng, 2 + at % 2, rng.randint(1, most_planes), late=5, most=4)
        plane, operand, _, distance = rng.choice(reads_of(flow))
        yield rng, flow, beats, plane, operand, some_hops(rng, distance, rng.randint(2, 6))


class Errors(Case):
    def test_hops_that_are_right(self):
        rng = random.Random(241)
        for at in range(300):
            distance = some_vector(rng, 2 + at % 2, 4)
            for many in range(2, 7):
                self.same(ask(hops_error, distance, some_hops(rng, distance, many)), None)
        self.same(hops_error((0, 0), ((0, 0), (0, 0))), None)
        self.same(hops_error((0, 0, 0), ((0, 0, 0),) * 6), None)
        self.same(hops_error((0, 0), ((0, 0),) * 7), (None, "hops"))
        self.same(hops_error((0, 0), ((0, 0),)), (None, "hops"))
        self.same(hops_error((1, 2), ((2, 0), (-1, 2))), (0, "hop"))
        self.same(hops_error((4, -4), ((4, 0), (0, -4), (0, 0))), None)

    def test_one_thing_wrong(self):
        rng = random.Random(242)
        seen = set()
        for at in range(60):
            distance = some_vector(rng, 2 + at % 2, 4)
            hops = some_hops(rng, distance, rng.randint(2, 6))
            for value in rng.sample(variants(hops), min(60, len(variants(hops)))) + damaged(rng, hops, 10):
                expected = reasons(distance, value)
                seen.add(expected[1] if expected else None)
                self.same(ask(hops_error, distance, value), expected, distance, value)
        self.assertEqual(seen, {None, "hops", "hop", "sum"})

    def test_values_of_all_kinds(self):
        for value in ODD:
            for told in (value, (value, value), ((1, 0), value), (value, (0, 2)), [value], ((1, 1), (0, 1), value)):
                self.same(ask(hops_error, (1, 2), told), reasons((1, 2), told), told)
                self.same(ask(hops_error, (0, 0), told), reasons((0, 0), told), told)
        self.same(hops_error((1, 0), ((True, 0), (0, 0))), (0, "hop"))
        self.same(hops_error((1, 0), ((1, 0), (0, False))), (1, "hop"))
        self.same(hops_error((1, 2), ((1, 2), (0, 0, 0))), (1, "hop"))
        self.same(hops_error((2, 2), ((1, 2), (0, 0))), (None, "sum"))


class Relayed(Case):
    def test_against_the_document(self):
        done = 0
        for rng, flow, _, plane, operand, hops in some_reads(243, 300):
            expected = ending(flow, plane, operand, hops)
            self.ends(expected, relayed, flow, plane, operand, hops)
            if expected[0] == "value":
                done += 1
                self.assertTrue(is_flow(expected[1]))
            for value in rng.sample(variants(hops), 10):
                self.ends(ending(flow, plane, operand, value), relayed, flow, plane, operand, value)
        self.assertGreater(done, 80)

    def test_errors_in_their_order(self):
        flow = (2, (("add", (0, (1, 2)), (1, (0, 0))), ("neg", (0, (1, 0)))))
        good, bad, full = ((1, 0), (0, 2)), ((1, 0), (0, 1)), ((1, 0), (0, 2)) + ((0, 0),) * 4
        for plane in ODD + (-1, 2):
            if not is_int(plane) or plane not in (0, 1):
                for operand, hops in ((0, good), (5, bad), (None, None), (0, full)):
                    self.raises(NoPlane, {"plane": plane}, relayed, flow, plane, operand, hops)
                    self.raises(NoPlane, {"plane": plane}, relayed_beats, flow, ((9, 9), (0, 0)), plane, operand, hops)
                    self.raises(NoPlane, {"plane": plane}, relayed_outside, flow, (2, 2), (), plane, operand, hops)
        for operand in ODD + (-1, 2):
            if not is_int(operand) or operand not in (0, 1):
                for hops in (good, bad, None, full):
                    self.raises(NoOperand, {"operand": operand}, relayed, flow, 0, operand, hops)
                    self.raises(NoOperand, {"operand": operand}, relayed_beats, flow, ((9, 9), (0, 0)), 0, operand, hops)
                    self.raises(NoOperand, {"operand": operand}, relayed_outside, flow, (2, 2), (), 0, operand, hops)
        self.raises(NoOperand, {"operand": 1}, relayed, flow, 1, 1, good)
        for hops in ODD + (bad, list(good), ((1, 0), (0, 2), (0, True)), ((1, 0), (0, 2)) + ((0, 0),) * 5, ((2, 0), (-1, 2))):
            error = reasons((1, 2), hops)
            self.raises(BadHops, {"error": error}, relayed, flow, 0, 0, hops)
            self.raises(BadHops, {"error": error}, relayed_beats, flow, ((1, 1), (0, 0)), 0, 0, hops)
            self.raises(BadHops, {"error": error}, relayed_outside, flow, (2, 2), (), 0, 0, hops)
        self.raises(TooMany, {"limit": 6}, relayed, flow, 0, 0, full)
        self.raises(TooMany, {"limit": 6}, relayed_beats, flow, ((0, 1), (0, 0)), 0, 0, full)
        self.raises(TooMany, {"limit": 6}, relayed_outside, flow, (2, 2), (), 0, 0, full)
        self.same(len(relayed(flow, 0, 0, full[:5])[1]), 6)
        six = (2, (("neg", (0, (1, 0))),) * 6)
        self.raises(TooMany, {"limit": 6}, relayed, six, 0, 0, ((1, 0), (0, 0)))
        self.raises(BadHops, {"error": (None, "sum")}, relayed, six, 0, 0, ((0, 0), (0, 0)))


class Beats(Case):
    def test_against_the_document(self):
        ends = {}
        for _, flow, beats, plane, operand, hops in some_reads(244, 400, most_planes=4):
            expected = ending(flow, plane, operand, hops)
            if expected[0] == "value":
                weights, starts = beats
                source, distance = flow[1][plane][operand + 1]
                delay = dot(weights, distance) + starts[plane] - starts[source]
                late = starts[source]
                for hop in hops[:-1]:
                    late += 1 - dot(weights, hop)
                    starts += (late,)
                expected = ("value", (weights, starts)) if delay >= len(hops) else (TooShort, {"delay": delay})
                if expected[0] == "value":
                    self.assertIsNone(beats_error(relayed(flow, plane, operand, hops), (weights, starts)))
            ends[expected[0]] = ends.get(expected[0], 0) + 1
            self.ends(expected, relayed_beats, flow, beats, plane, operand, hops)
        self.assertGreater(min(ends["value"], ends[TooShort], ends[TooMany]), 5)

    def test_delays_just_long_enough(self):
        for many in range(2, 7):
            flow, hops = (2, (("neg", (0, (4, 0))),)), ((1, 0), (3, 0)) + ((0, 0),) * (many - 2)
            for weight in range(1, 9):
                if 4 * weight < many:
                    self.raises(TooShort, {"delay": 4 * weight}, relayed_beats, flow, ((weight, 0), (0,)), 0, 0, hops)
                else:
                    found = ask(relayed_beats, flow, ((weight, 0), (0,)), 0, 0, hops)
                    self.assertIsNone(beats_error(relayed(flow, 0, 0, hops), found))

    def test_starts_near_the_bounds(self):
        flow = (2, (("neg", (1, (4, 4))), ("neg", (0, (4, 4)))))
        hops = ((4, 4), (0, 0), (0, 0))
        for start in range(-10000, -9978):
            first = start + 1 - 16
            expected = ("value", ((2, 2), (start, start, first, first + 1))) if first >= -10000 else (TooLarge, {"limit": 10000})
            self.ends(expected, relayed_beats, flow, ((2, 2), (start, start)), 0, 0, hops)
        hops = ((0, 0), (0, 0), (4, 4))
        for start in range(9990, 10001):
            expected = ("value", ((2, 2), (start, start, start + 1, start + 2))) if start <= 9998 else (TooLarge, {"limit": 10000})
            self.ends(expected, relayed_beats, flow, ((2, 2), (start, start)), 0, 0, hops)
        self.raises(TooShort, {"delay": 2}, relayed_beats, (2, (("neg", (0, (1, 0))),)), ((2, 0), (10000,)), 0, 0, ((0, 0), (0, 0), (1, 0)))
        up = (2, (("neg", (0, (-4, 4))),))
        self.raises(TooLarge, {"limit": 10000}, relayed_beats, up, ((50, 60), (9800,)), 0, 0, ((-4, 0), (0, 4)))
        self.same(relayed_beats(up, ((50, 60), (9799,)), 0, 0, ((-4, 0), (0, 4))), ((50, 60), (9799, 10000)))


class Outsides(Case):
    def expected(self, flow, box, outside, plane, operand, hops):
        error = outside_error(flow, box, outside)
        if error:
            return (BadOutside, {"error": error})
        end = ending(flow, plane, operand, hops)
        if end[0] != "value":
            return end
        source, distance = flow[1][plane][operand + 1]
        entries = list(outside)
        for q, z, word in outside:
            if q == source and word and inside(box, tuple(a + b for a, b in zip(z, distance))):
                for at in range(1, len(hops)):
                    vector = tuple(map(sum, zip(z, *hops[:at])))
                    if not inside(box, vector):
                        entries.append((len(flow[1]) + at - 1, vector, word))
        return ("value", tuple(sorted(entries))) if len(entries) <= 1000 else (TooMany, {"limit": 1000})

    def test_words_of_the_old_planes_stay(self):
        done = 0
        rng = random.Random(245)
        for _, flow, beats, plane, operand, hops in some_reads(246, 260, most_planes=4):
            box = rng.choice(((1, 1), (2, 3), (4, 4), (1, 9)) if flow[0] == 2 else ((1, 1, 1), (2, 3, 2), (3, 1, 4)))
            outside = some_outside(rng, flow, box)
            expected = self.expected(flow, box, outside, plane, operand, hops)
            self.ends(expected, relayed_outside, flow, box, outside, plane, operand, hops)
            if expected[0] == "value":
                done += 1
                other = relayed(flow, plane, operand, hops)
                self.assertIsNone(outside_error(other, box, expected[1]))
                words = reckoned(other, box, expected[1])[:len(flow[1])]
                self.same(words, words_of(flow, beats, box, outside))
        self.assertGreater(done, 100)

    def test_entries_that_the_read_uses_and_others(self):
        flow, hops = (2, (("neg", (0, (1, 1))), ("copy", (0, (1, 0))))), ((1, 0), (0, 1))
        for outside in itertools.product([(), ((0, (-1, -1), 5),), ((0, (-1, -1), 0),)], [(), ((0, (-1, 0), 6),)], [(), ((0, (-1, 1), 6),)],
                                         [(), ((0, (0, -1), 7),)], [(), ((1, (-1, -1), 7),)]):
            entries = sum(outside, ())
            self.ends(self.expected(flow, (2, 2), entries, 0, 0, hops), relayed_outside, flow, (2, 2), entries, 0, 0, hops)
        great = 10 ** 9
        far = ((0, (-great, 0), 3), (0, (-1, great - 2), 4), (0, (-1, great - 1), 5), (0, (great - 2, -1), 6), (0, (great - 1, -1), 7))
        self.same(ask(relayed_outside, flow, (great, great), far, 0, 0, hops),
                  far + ((2, (great - 1, -1), 6),))
        self.same(ask(relayed_outside, flow, (great, great), ((0, (-1, 3), 9),), 0, 0, ((0, 1), (1, 0))), ((0, (-1, 3), 9), (2, (-1, 4), 9)))

    def test_a_thousand_entries(self):
        flow, hops, box = (2, (("neg", (0, (1, 1))),)), ((0, 1), (1, 0)), (10, 10 ** 6)
        for many in (499, 500, 501, 999, 1000):
            outside = tuple((0, (-1, at), 1) for at in range(many))
            expected = self.expected(flow, box, outside, 0, 0, hops)
            self.assertEqual(expected[0] == "value", many <= 500)
            self.ends(expected, relayed_outside, flow, box, outside, 0, 0, hops)
            quiet = tuple((0, (-1, at), 0) for at in range(many))
            self.same(ask(relayed_outside, flow, box, quiet, 0, 0, hops), quiet)

    def test_bad_outsides_first(self):
        flow, hops = (2, (("neg", (0, (1, 1))),)), ((1, 0), (0, 1))
        for outside in ODD + (((0, (0, 0), 1),), ((1, (-1, 0), 1),), ((0, (-1, 0), 65521),), ((0, (-1, 0), 1),) * 2, [(0, (-1, 0), 1)]):
            error = outside_error(flow, (2, 2), outside)
            if error:
                for plane, operand, told in ((0, 0, hops), (9, 0, hops), (0, None, hops), (0, 0, None)):
                    self.raises(BadOutside, {"error": error}, relayed_outside, flow, (2, 2), outside, plane, operand, told)



if __name__ == "__main__":
    unittest.main()
