"""Promise 17: ways and rings."""

import functools
import itertools
import random
import unittest

from support import ODD, Case, ask, damaged, dot, is_int, some_flow, some_flows, some_vector

from wirebeats.errors import NoPlane
from wirebeats.ways import is_ring, is_way, need_of, rings_of, way_to

G = (2, (("copy", (1, (0, 0))), ("neg", (0, (1, 0)))))
H = (2, (("copy", (0, (0, 1))), ("copy", (1, (1, 0))), ("madd", (2, (1, 1)), (0, (0, 0)), (1, (0, 0)))))
ALL_TO_ALL = (3, tuple(("madd", (k, (1, 0, 0)), ((k + 1) % 6, (0, 1, 0)), ((k + 2) % 6, (0, 0, 1))) for k in range(6)))
TRIPLE_RING = (2, tuple(("madd", ((k - 1) % 6, (1, 0)), ((k - 1) % 6, (0, 1)), ((k - 1) % 6, (1, 1))) for k in range(6)))


def reads(flow):
    return [(plane, operand) for plane, rule in enumerate(flow[1]) for operand in range(len(rule) - 1)]


def source(flow, read):
    return flow[1][read[0]][read[1] + 1][0]


def are_ways(flow, value):
    """Whether value is a way, and whether it is a ring, by their definitions."""
    if type(value) is not tuple:
        return False, False
    for read in value:
        if type(read) is not tuple or len(read) != 2 or not all(is_int(item) for item in read) or read not in reads(flow):
            return False, False
    way = all(source(flow, value[at]) == value[at - 1][0] for at in range(1, len(value)))
    return way, bool(way and value and source(flow, value[0]) == value[-1][0])


def some_way(rng, flow, many):
    """A way of at most so many reads, from the back to the front."""
    way = [rng.choice(reads(flow))]
    while len(way) < many:
        plane = source(flow, way[0])
        way.insert(0, (plane, rng.randrange(len(flow[1][plane]) - 1)))
    return tuple(way)


@functools.lru_cache(maxsize=64)
def plain_rings(flow):
    """All plain rings: each order of each set of planes with the least one first, with all operands."""
    rings = []
    planes = range(len(flow[1]))
    for many in range(1, len(flow[1]) + 1):
        for chosen in itertools.permutations(planes, many):
            if chosen[0] != min(chosen):
                continue
            operands = [[at for at in range(len(flow[1][plane]) - 1) if source(flow, (plane, at)) == chosen[index - 1]]
                        for index, plane in enumerate(chosen)]
            rings += [tuple(zip(chosen, told)) for told in itertools.product(*operands)]
    return tuple(sorted(rings))


class Ways(Case):
    def check(self, flow, value):
        way, ring = are_ways(flow, value)
        self.assertIs(ask(is_way, flow, value), way, (flow, value))
        self.assertIs(ask(is_ring, flow, value), ring, (flow, value))
        return way, ring

    def test_ways_and_parts_of_ways(self):
        rng = random.Random(101)
        rings = 0
        for flow in some_flows(102, 80):
            way = some_way(rng, flow, rng.choice((1, 2, 3, 5, 12)))
            for first in range(len(way) + 1):
                for last in range(first, len(way) + 1):
                    told = self.check(flow, way[first:last])
                    self.assertTrue(told[0])
                    rings += told[1]
            for first, last in itertools.combinations(range(len(way) + 1), 2):
                self.check(flow, way[:first] + way[last:])
        self.assertGreater(rings, 100)
        self.same(self.check(G, ()), (True, False))

    def test_bent_ways(self):
        rng = random.Random(103)
        bent = 0
        for flow in some_flows(104, 60):
            way = some_way(rng, flow, rng.randint(2, 9))
            for value in damaged(rng, way, 30):
                bent += not self.check(flow, value)[0]
            for _ in range(20):
                value = list(way)
                for _ in range(rng.choice((1, 2))):
                    value[rng.randrange(len(way))] = rng.choice(reads(flow) + [(6, 0), (0, 3), (-1, 0), (0, -1)])
                bent += not self.check(flow, tuple(value))[0]
        self.assertGreater(bent, 1000)

    def test_other_values(self):
        for value in ODD + ([(0, 0)], ([0, 0],), ((0, False),), ((False, 0),), ((True, 0),), ((1, 0), (False, 0)), ((0, 0, 0),),
                            ((0,),), (0, 0), ((0, 1),), ((2, 0),), ((-1, 0),), ((0, -1),), (None,), (((0, 0),),), ((0, (0,)),)):
            self.check(G, value)
        for value in (((0, 0),), ((1, 0),), ((1, 0), (0, 0)), ((0, 0), (1, 0)), ((0, 0), (1, 0)) * 5000, ((0, 0),) * 2):
            self.check(G, value)
        self.same(self.check(G, ((0, 0), (1, 0)) * 9999), (True, True))
        self.same(self.check(G, ((0, 0), (1, 0)) * 99 + ((0, 0),)), (True, False))
        self.same(self.check(H, ((2, 0),)), (True, True))
        self.same(self.check(H, ((2, 1),)), (True, False))

    def test_need(self):
        rng = random.Random(105)
        signs = set()
        for flow in some_flows(106, 100):
            way = some_way(rng, flow, rng.choice((1, 2, 4, 30)))
            weights = some_vector(rng, flow[0], rng.choice((1, 5, 60)))
            gains = [dot(weights, flow[1][plane][operand + 1][1]) for plane, operand in way]
            self.same(ask(need_of, flow, weights, way), len(way) - sum(gains))
            signs.add(len(way) > sum(gains))
            self.same(ask(need_of, flow, weights, ()), 0)
            self.same(ask(need_of, flow, (0,) * flow[0], way), len(way))
        self.assertEqual(signs, {True, False})
        self.same(ask(need_of, (2, (("neg", (0, (4, -4))),)), (-60, 60), ((0, 0),)), 481)


class WayTo(Case):
    def distances(self, flow, plane):
        """How many reads it takes to come to each plane, by rounds over all reads."""
        found = {plane: 0}
        for _ in flow[1]:
            for read in reads(flow):
                if source(flow, read) in found:
                    found[read[0]] = min(found.get(read[0], 99), found[source(flow, read)] + 1)
        return found

    def test_ways_as_short_as_possible(self):
        rng = random.Random(107)
        lengths = []
        for at in range(150):
            flow = some_flow(rng, 2 + at % 2, 1 + at % 6, 1)
            if at % 3 == 0:
                kinds = [(rule[0], *[(rng.choice((k, k, max(k - 1, 0))), d) for _, d in rule[1:]]) for k, rule in enumerate(flow[1])]
                flow = (flow[0], tuple(kinds))
            for plane, other in itertools.product(range(len(flow[1])), repeat=2):
                found = ask(way_to, flow, plane, other)
                many = self.distances(flow, plane).get(other)
                lengths.append(many)
                if many is None:
                    self.assertIsNone(found)
                    continue
                self.assertTrue(are_ways(flow, found)[0])
                self.assertEqual(len(found), many)
                if found:
                    self.assertEqual((source(flow, found[0]), found[-1][0]), (plane, other))
        for many in (None, 0, 1, 2, 3, 4, 5):
            self.assertIn(many, lengths)

    def test_itself_and_none(self):
        for flow in (G, H, ALL_TO_ALL, TRIPLE_RING):
            for plane in range(len(flow[1])):
                self.same(ask(way_to, flow, plane, plane), ())
        self.assertIsNone(ask(way_to, H, 2, 0))
        self.assertIsNone(ask(way_to, H, 0, 1))
        self.same(len(ask(way_to, TRIPLE_RING, 1, 0)), 5)

    def test_planes_that_are_none(self):
        for value in ODD + (2, -1, "0", (0,)):
            if is_int(value) and value in (0, 1):
                continue
            self.raises(NoPlane, {"plane": value}, way_to, G, value, 0)
            self.raises(NoPlane, {"plane": value}, way_to, G, 1, value)
            self.raises(NoPlane, {"plane": value}, way_to, G, value, [])
            self.raises(NoPlane, {"plane": value}, way_to, G, value, value)


class Rings(Case):
    def check(self, flow):
        expected = plain_rings(flow)
        self.same(ask(rings_of, flow), expected, flow)
        for ring in expected:
            self.assertTrue(is_ring(flow, ring))
        return len(expected)

    def test_all_plain_rings(self):
        many = [self.check(flow) for flow in some_flows(108, 120)]
        self.assertGreater(max(many), 9)
        self.same(self.check((2, (("copy", (1, (0, 0))), ("neg", (1, (1, 0)))))), 1)
        self.same(self.check(G), 1)
        self.same(self.check(H), 3)
        self.check(ALL_TO_ALL)

    def test_most_rings(self):
        self.same(self.check(TRIPLE_RING), 729)

    def test_reads_side_by_side(self):
        flow = (2, (("madd", (0, (1, 0)), (1, (0, 1)), (1, (1, 1))), ("add", (0, (0, 0)), (0, (1, 1)))))
        self.same(ask(rings_of, flow), (((0, 0),), ((0, 1), (1, 0)), ((0, 1), (1, 1)), ((0, 2), (1, 0)), ((0, 2), (1, 1))))


if __name__ == "__main__":
    unittest.main()
