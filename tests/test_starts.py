"""Promise 18: starts."""

import itertools
import random
import unittest

from support import KINDS, ODD, Case, all_vectors, ask, damaged, dot, is_int, some_flow, some_vector
from test_ways import are_ways, plain_rings, reads, source

from wirebeats.beats import beats_error
from wirebeats.benches import Bench, ServedBench
from wirebeats.errors import BadWeights, NoStarts
from wirebeats.slowing import find_factor, find_ratio
from wirebeats.starts import find_starts, starts_hold

G = (2, (("copy", (1, (0, 0))), ("neg", (0, (1, 0)))))
F = (2, (("add", (0, (1, 0)), (0, (0, 1))),))


def gain(flow, weights, read):
    return dot(weights, flow[1][read[0]][read[1] + 1][1])


def need(flow, weights, way):
    return sum(1 - gain(flow, weights, read) for read in way)


def least(flow, weights):
    """The least starts by the needs of all ways without a plane twice, which are enough if there are starts."""
    planes = len(flow[1])
    starts = [0] * planes
    for many in range(2, planes + 1):
        for order in itertools.permutations(range(planes), many):
            total = 0
            for before, plane in zip(order, order[1:]):
                needs = [1 - gain(flow, weights, read) for read in reads(flow) if read[0] == plane and source(flow, read) == before]
                if not needs:
                    break
                total += max(needs)
            else:
                starts[order[-1]] = max(starts[order[-1]], total)
    return tuple(starts)


def some_cases(seed, many):
    rng = random.Random(seed)
    for at in range(many):
        most = rng.choice((1, 2, 4))
        flow = some_flow(rng, 2 + at % 2, 1 + at % 6, most)
        if at % 4:
            # Sources further ahead and distances with items from 0 on leave more weights with starts.
            rules = [(rule[0], *[(min(q, k) if at % 8 < 5 else q, tuple(map(abs, d))) for q, d in rule[1:]])
                     for k, rule in enumerate(flow[1])]
            flow = (flow[0], tuple(rules))
        weights = some_vector(rng, flow[0], rng.choice((1, 5, 60)))
        yield rng, flow, weights if at % 3 else tuple(map(abs, weights))


class FindStarts(Case):
    def check(self, flow, weights):
        word, told = found = ask(find_starts, flow, weights)
        bad = [ring for ring in plain_rings(flow) if need(flow, weights, ring) > 0]
        if bad:
            self.assertEqual(word, "ring")
            self.assertIn(told, bad)
            self.assertTrue(are_ways(flow, told)[1])
        else:
            self.same(found, ("starts", least(flow, weights)), flow, weights)
            self.assertIsNone(beats_error(flow, (weights, told)))
        self.assertIs(ask(starts_hold, flow, weights, found), True)
        return not bad

    def test_least_starts_or_a_ring(self):
        served = {}
        for _, flow, weights in some_cases(111, 400):
            right = self.check(flow, weights)
            served.setdefault(len(flow[1]), []).append(right)
        for planes in range(1, 7):
            self.assertGreater(served[planes].count(True), 5, planes)
            self.assertGreater(served[planes].count(False), 5, planes)

    def test_all_weights_of_small_flows(self):
        for flow in (G, F, (2, (("sub", (0, (1, -1)), (0, (2, -1))),))):
            right = [self.check(flow, weights) for weights in all_vectors(2, 3)]
            self.assertEqual(set(right), {True, False})

    def test_none_is_smaller(self):
        for _, flow, weights in some_cases(112, 200):
            word, starts = find_starts(flow, weights)
            if word == "starts":
                for plane in range(len(starts)):
                    lower = starts[:plane] + (starts[plane] - 1,) + starts[plane + 1:]
                    self.assertTrue(lower[plane] < 0 or beats_error(flow, (weights, lower)))

    def test_long_ways(self):
        rules = (("copy", (0, (1, 0))),) + tuple(("copy", (k, (-4, -4))) for k in range(5))
        self.same(ask(find_starts, (2, rules), (60, 60)), ("starts", (0, 481, 962, 1443, 1924, 2405)))
        self.same(ask(find_starts, (2, rules), (0, 60)), ("ring", ((0, 0),)))
        back = tuple(("copy", (min(k + 1, 5), (-4, -4) if k < 5 else (0, 1))) for k in range(6))
        self.same(ask(find_starts, (2, back), (60, 60)), ("starts", (2405, 1924, 1443, 962, 481, 0)))
        deep = (3, (("copy", (0, (4, 4, 4))),) + tuple(("copy", (k, (-4, -4, -4))) for k in range(5)))
        self.same(ask(find_starts, deep, (60, 60, 60)), ("starts", (0, 721, 1442, 2163, 2884, 3605)))

    def test_ring_that_just_serves(self):
        six = tuple(("copy", ((k - 1) % 6, (1, 0) if k < 5 else (1, 1))) for k in range(6))
        self.same(ask(find_starts, (2, six), (1, 0)), ("starts", (0, 0, 0, 0, 0, 0)))
        self.same(ask(find_starts, (2, six), (1, -1)), ("ring", tuple((k, 0) for k in range(6))))
        self.same(ask(find_starts, (2, six), (0, 6)), ("starts", (1, 2, 3, 4, 5, 0)))
        self.same(ask(find_starts, (2, six), (0, 5)), ("ring", tuple((k, 0) for k in range(6))))


class Rings(Case):
    """Where there are no starts, a plain ring with a need above 0 is told."""

    def check(self, flow, weights):
        """The number of reads of the ring that is told, 0 if there are starts."""
        found = ask(find_starts, flow, weights)
        bad = [ring for ring in plain_rings(flow) if need(flow, weights, ring) > 0]
        self.assertEqual(found[0], "ring" if bad else "starts")
        if not bad:
            self.same(found, ("starts", least(flow, weights)))
            return 0
        ring = found[1]
        planes = [plane for plane, _ in ring]
        self.assertTrue(type(ring) is tuple and all(type(read) is tuple for read in ring))
        self.assertTrue(are_ways(flow, ring)[1])
        self.assertEqual((len(set(planes)), planes[0]), (len(planes), min(planes)))
        self.assertGreater(need(flow, weights, ring), 0)
        self.assertIs(ask(starts_hold, flow, weights, found), True)
        return len(ring)

    def some_ring(self, rng, dims, planes, many):
        """A flow in which one ring of so many planes, in any order, has a need above 0, and perhaps others."""
        order = rng.sample(range(planes), many)
        after = {plane: order[at - 1] for at, plane in enumerate(order)}
        rules = []
        for plane in range(planes):
            kind = rng.choice(sorted(KINDS))
            # The other planes read the ring, or one another, so that they are on no ring or on longer ones.
            source_told = after.get(plane, rng.choice([order[0], max(0, plane - 1)]))
            reads_told = [(source_told, tuple(rng.choice((0, 0, 1, -1)) for _ in range(dims))) for _ in range(KINDS[kind])]
            if len(reads_told) > 1 and rng.random() < 0.3:
                reads_told[rng.randrange(len(reads_told))] = (rng.randrange(planes), (4,) * dims)
            rules.append((kind, *reads_told))
        return (dims, tuple(rules))

    def test_rings_of_one_to_six_reads(self):
        rng = random.Random(118)
        found = []
        for planes in range(1, 7):
            for many in range(1, planes + 1):
                for at in range(12):
                    flow = self.some_ring(rng, 2 + at % 2, planes, many)
                    for weights in (some_vector(rng, flow[0], 60), some_vector(rng, flow[0], 1), (0,) * flow[0], (3,) * flow[0]):
                        found.append(self.check(flow, weights))
        for many in range(7):
            self.assertGreater(found.count(many), 15, many)

    def test_many_rings(self):
        """The flows with the most plain rings, where all of them bar, only some, only one, or none."""
        one = (2, tuple(("madd", *[((k + 5) % 6, (1, 0)) for _ in range(3)]) for k in range(6)))
        two = (2, tuple(("madd", *[((k + j) % 6, (1, 0)) for j in range(3)]) for k in range(6)))
        for flow in (one, two):
            for weights in ((0, 2), (0, 0), (-1, 5), (-60, 60), (1, -7), (60, 0)):
                self.assertEqual(self.check(flow, weights) > 0, weights[0] < 1)
        rng = random.Random(119)
        for _ in range(12):
            # Each plane has one read with a gain below the others, and the ring of these just bars, or just does not.
            lows = [rng.randrange(3) for _ in range(6)]
            for gains in ((6, 0, 0, 0, 0, 0), (5, 0, 0, 0, 0, 0), (4, 4, -1, -1, 0, 0), (4, 4, -1, -1, -1, 0)):
                rules = tuple(("madd", *[((k + 5) % 6, (gains[k] // 2, gains[k] % 2) if j == lows[k] else (4, 0)) for j in range(3)])
                              for k in range(6))
                self.assertEqual(self.check((2, rules), (2, 1)), 6 if sum(gains) < 6 else 0)

    def test_all_kinds_and_weights(self):
        rng = random.Random(120)
        found = []
        for at in range(150):
            flow = some_flow(rng, 2 + at % 2, 1 + at % 6, rng.choice((1, 4)))
            weights = tuple(rng.choice((0, item)) for item in some_vector(rng, flow[0], rng.choice((1, 60))))
            found.append(self.check(flow, weights))
        self.assertGreater(len(set(found)), 4)


class FirstRead(Case):
    """A ring begins with the read of its least plane, wherever the search has come upon it."""

    def one_ring(self, order, operands):
        """A flow of six planes whose only ring has the planes in this order, by these operands, without gains.

        The other operands read the same plane by greater gains; the planes that are not on the ring read it.
        """
        after = {plane: order[at - 1] for at, plane in enumerate(order)}
        rules = []
        for plane in range(6):
            read, other = ((after.get(plane, order[0]), distance) for distance in ((0, 0), (4, 4)))
            rules.append(("madd", *[read if operand == operands[plane] else other for operand in range(3)]))
        return (2, tuple(rules))

    def orders(self):
        rng = random.Random(121)
        for many in range(1, 7):
            for order in itertools.permutations(range(6), many):
                operands = [rng.randrange(3) for _ in range(6)]
                at = order.index(min(order))
                ring = tuple((plane, operands[plane]) for plane in order[at:] + order[:at])
                yield self.one_ring(order, operands), ring

    def test_all_orders(self):
        for flow, ring in self.orders():
            for weights in ((1, 2), (60, 60)):
                self.same(find_starts(flow, weights), ("ring", ring), flow)
                self.same(find_factor(flow, weights), ("never", ring), flow)
                self.same(find_ratio(flow, weights), ("never", ring), flow)

    def test_slow_rings(self):
        """A ring with a gain of 1 in all, so that the weights serve if they are slowed by its length."""
        for flow, ring in self.orders():
            plane, operand = ring[-1]
            rule = list(flow[1][plane])
            rule[operand + 1] = (rule[operand + 1][0], (1, 0))
            slow = (2, flow[1][:plane] + (tuple(rule),) + flow[1][plane + 1:])
            factor = find_factor(slow, (1, 1))
            self.same((factor[:2], factor[3]), (("factor", len(ring)), ring if len(ring) > 1 else None), slow)
            self.same(find_ratio(slow, (1, 1))[:4], ("ratio", len(ring), 1, ring), slow)

    def test_benches_tell_the_same_ring(self):
        for flow, ring in list(self.orders())[::7]:
            bench = Bench(flow, (1, 2), (0, 1))
            self.same((bench.starts_at(), bench.array_at(), bool(bench)), (("ring", ring), ("ring", ring), False))
            self.raises(NoStarts, {"ring": ring}, ServedBench, flow, (1, 2), (0, 1))
            self.raises(NoStarts, {"ring": ring}, bench, (2, 2), ())


class StartsHold(Case):
    def test_other_starts(self):
        for rng, flow, weights in some_cases(113, 200):
            word, starts = find_starts(flow, weights)
            if word == "ring":
                starts = tuple(rng.randint(-5, 5) for _ in flow[1])
            for late in (0, 1, -1, 10000 - max(starts), 10001 - max(starts), -10000 - min(starts), -10001 - min(starts)):
                value = tuple(start + late for start in starts)
                self.assertIs(ask(starts_hold, flow, weights, ("starts", value)), beats_error(flow, (weights, value)) is None)
            for _ in range(10):
                value = tuple(start + rng.randint(-2, 2) for start in starts)
                self.assertIs(ask(starts_hold, flow, weights, ("starts", value)), beats_error(flow, (weights, value)) is None)

    def test_bounds(self):
        for starts, right in (((10000, 10000), False), ((10000, 9999), True), ((10001, 10000), False), ((-9999, -10000), True),
                              ((-10000, -10001), False), ((10000, -10000), False), ((10000, 9998), True), ((10000, 9997), False)):
            self.assertIs(ask(starts_hold, G, (3, 0), ("starts", starts)), right)

    def test_rings_plain_and_others(self):
        counts = {True: 0, False: 0}
        for rng, flow, weights in some_cases(114, 200):
            rings = plain_rings(flow)
            values = list(rings[:20])
            for ring in rings[:20]:
                values += [ring * 2, ring * 7, ring[1:] + ring[:1], ring[:-1]]
                values += [ring + other for other in rings[:5]]
            for value in values:
                right = are_ways(flow, value)[1] and need(flow, weights, value) > 0
                counts[right] += 1
                self.assertIs(ask(starts_hold, flow, weights, ("ring", value)), right)
        self.assertGreater(min(counts.values()), 300)
        two = (2, (("add", (0, (1, 0)), (1, (0, 0))), ("add", (0, (0, 0)), (1, (1, 0)))))
        # A ring that meets each plane twice, of which the first part alone bars nothing.
        self.assertIs(ask(starts_hold, two, (3, 0), ("ring", ((0, 0), (1, 0), (1, 1), (0, 1)))), False)
        self.assertIs(ask(starts_hold, two, (1, 0), ("ring", ((0, 0), (1, 0), (1, 1), (0, 1)))), True)
        self.assertIs(ask(starts_hold, two, (1, 0), ("ring", ((0, 0),))), False)

    def test_bent_values(self):
        rng = random.Random(115)
        counts = {True: 0, False: 0}
        for _, flow, weights in some_cases(116, 120):
            found = find_starts(flow, weights)
            for value in damaged(rng, found, 25):
                right = False
                if type(value) is tuple and len(value) == 2 and type(value[0]) is str:
                    if value[0] == "starts":
                        right = beats_error(flow, (weights, value[1])) is None
                    elif value[0] == "ring":
                        right = are_ways(flow, value[1])[1] and need(flow, weights, value[1]) > 0
                counts[right] += 1
                self.assertIs(ask(starts_hold, flow, weights, value), right)
        self.assertGreater(min(counts.values()), 100)
        for value in ODD + (("starts",), ("starts", (1, 0), 0), ["starts", (1, 0)], ("starts", [1, 0]), ("starts", (True, False)),
                            ("starts", (1, False)), ("start", (1, 0)), ("ring", ()), ("ring", ((0, 0), (1, 0))), ("starts", (1,)),
                            ("starts", (1, 0, 0)), (("starts", (1, 0)),), ("starts", None), ("ring", None), (1, (1, 0))):
            self.assertIs(ask(starts_hold, G, (2, 0), value), False)
        self.assertIs(ask(starts_hold, G, (1, 5), ("ring", ((0, 0), (1, 0)))), True)
        self.assertIs(ask(starts_hold, G, (1, 5), ("ring", ((1, 0), (0, 0)))), True)
        self.assertIs(ask(starts_hold, G, (1, 5), ("ring", [(0, 0), (1, 0)])), False)
        self.assertIs(ask(starts_hold, G, (1, 5), ("ring", ((0, False), (1, 0)))), False)
        self.assertIs(ask(starts_hold, G, (1, 5), ("starts", ((0, 0), (1, 0)))), False)


class Weights(Case):
    def test_weights_that_are_none(self):
        rng = random.Random(117)
        deep = (3, (("neg", (0, (1, 0, 0))),))
        values = list(ODD) + [(61, 0), (0, -61), (60, 60), (-60, -60), (1, 0, 0), (1,), [1, 0], (True, 0), (1, False), (1, None)]
        values += damaged(rng, (2, 0), 60) + damaged(rng, (2, 0, -5), 60)
        for flow in (G, deep):
            for value in values:
                right = type(value) is tuple and len(value) == flow[0] and all(is_int(item) and abs(item) <= 60 for item in value)
                if right:
                    self.assertIs(ask(starts_hold, flow, value, find_starts(flow, value)), True)
                    self.assertIs(ask(starts_hold, flow, value, None), False)
                else:
                    self.raises(BadWeights, {"vector": value}, find_starts, flow, value)
                    self.raises(BadWeights, {"vector": value}, starts_hold, flow, value, ("starts", (1, 0)))
                    self.raises(BadWeights, {"vector": value}, starts_hold, flow, value, None)


if __name__ == "__main__":
    unittest.main()
