"""Promises 3 to 7: flows."""

import random
import unittest

from support import KINDS, ODD, Case, all_vectors, ask, damaged, is_int, some_flow, some_flows

from wirebeats.errors import NoPlane, OtherDims, TooMany
from wirebeats.flows import flow_error, is_flow, joined, needed, readers_of, reads_of

F = (2, (("add", (0, (1, 0)), (0, (0, 1))),))
G = (3, (("copy", (2, (0, 0, 1))), ("madd", (0, (1, 0, 0)), (1, (0, 0, 0)), (2, (-4, 4, 0))), ("neg", (1, (0, 0, 0)))))


def reasons(value):
    """All reasons why value is no flow, in the order of the document."""
    if type(value) is not tuple or len(value) != 2:
        yield (None, "flow")
        return
    dims, rules = value
    if not is_int(dims) or dims not in (2, 3):
        yield (None, "dims")
    if type(rules) is not tuple or not 0 < len(rules) < 7:
        yield (None, "rules")
        return
    for plane, rule in enumerate(rules):
        kind = rule[0] if type(rule) is tuple and rule else None
        if type(kind) is not str or KINDS.get(kind) != len(rule) - 1:
            yield (plane, "rule")
            continue
        for operand, read in enumerate(rule[1:]):
            if type(read) is not tuple or len(read) != 2:
                yield ((plane, operand), "read")
                continue
            if not is_int(read[0]) or read[0] not in range(len(rules)):
                yield ((plane, operand), "source")
            if type(read[1]) is not tuple or len(read[1]) != dims or [
                    item for item in read[1] if not is_int(item) or abs(item) > 4]:
                yield ((plane, operand), "distance")


def first_reason(value):
    return next(reasons(value), None)


class FlowErrors(Case):
    def check(self, value, expected):
        self.same(ask(flow_error, value), expected, value)
        self.assertIs(ask(is_flow, value), expected is None)

    def test_flows_of_all_sizes(self):
        for flow in some_flows(1, 120):
            self.check(flow, None)
        for kind, many in KINDS.items():
            for dims in (2, 3):
                self.check((dims, ((kind, *[(0, (0,) * dims)] * many),)), None)

    def test_distances_at_both_ends_and_beyond(self):
        for dims in (2, 3):
            for at in range(dims):
                for item in range(-6, 7):
                    distance = tuple(item if k == at else 0 for k in range(dims))
                    expected = None if abs(item) <= 4 else ((0, 1), "distance")
                    self.check((dims, (("sub", (0, (0,) * dims), (0, distance)),)), expected)

    def test_frames(self):
        for value in ((), (2,), F + (0,), list(F), {"dims": 2}, None, "flow", 2, True):
            self.check(value, (None, "flow"))
        for dims in (1, 4, 0, -2, True, False, None, "2", (2,), [2], 10 ** 39):
            self.check((dims, F[1]), (None, "dims"))
            self.check((dims, ()), (None, "dims"))
        for rules in ((), list(F[1]), F[1] * 7, None, "add", {}, 1):
            self.check((2, rules), (None, "rules"))
        self.check((2, F[1] * 6), None)

    def test_rules(self):
        read = (0, (1, 0))
        wrong = [(), ["neg", read], ("none", read), ("Neg", read), ("neg",), ("neg", read, read), ("add", read),
                 ("madd", read, read), ("copy", read, read), (None, read), (["neg"], read), ({}, read), (True, read),
                 "neg", None, 0, (("neg",), read), (("neg", read),), ("", read), ("least", read, read, read)]
        for rule in wrong:
            self.check((2, (rule,)), (0, "rule"))
            self.check((2, (F[1][0], rule, ("nothing",))), (1, "rule"))
        self.check((2, (("neg", (1, (5, 0))), ())), ((0, 0), "distance"))

    def test_reads(self):
        good = (0, (1, 0))
        for read in ((), (0,), [0, (1, 0)], (0, (1, 0), 1), None, 0, "read", {}):
            self.check((2, (("add", good, read),)), ((0, 1), "read"))
        for source in (-1, 1, True, False, None, "0", (0,), [], {}, 10 ** 39):
            self.check((2, (("add", good, (source, (9, 9))),)), ((0, 1), "source"))
        for distance in ((1,), (1, 0, 0), [1, 0], (True, 0), (0, False), (1, None), (5, 0), (0, -5), (), None, "10",
                         ("1", "0"), (0, 10 ** 39), ((1,), 0)):
            self.check((2, (("add", good, (0, distance)),)), ((0, 1), "distance"))
        self.check((2, (("add", (0, (5, 0)), (9, 9)),)), ((0, 0), "distance"))
        self.check((2, (("add", (3, None), None),)), ((0, 0), "source"))
        self.check((3, (("neg", (0, (1, 0))),)), ((0, 0), "distance"))

    def test_source_may_be_any_plane(self):
        rules = tuple(("copy", (plane, (0, 0))) for plane in (5, 4, 3, 2, 1, 0))
        self.check((2, rules), None)
        self.check((2, rules[:5]), ((0, 0), "source"))

    def test_odd_values(self):
        for value in ODD:
            self.check(value, (None, "flow") if not (type(value) is tuple and len(value) == 2) else first_reason(value))

    def test_damaged_flows(self):
        rng = random.Random(2)
        wrong = 0
        for at, flow in enumerate(some_flows(3, 60)):
            for value in damaged(rng, flow, 25):
                self.check(value, first_reason(value))
                wrong += first_reason(value) is not None
        self.assertGreater(wrong, 2000)


class Reads(Case):
    def test_reads_and_readers(self):
        for flow in some_flows(4, 80):
            expected = [(k, x, *read) for k, rule in enumerate(flow[1]) for x, read in enumerate(rule[1:])]
            self.same(ask(reads_of, flow), tuple(sorted(expected)))
            for plane in range(len(flow[1])):
                readers = sorted({read[0] for read in expected if read[2] == plane})
                self.same(ask(readers_of, flow, plane), tuple(readers))

    def test_needed(self):
        rng = random.Random(5)
        for flow in some_flows(6, 120):
            many = len(flow[1])
            planes = [rng.randrange(many) for _ in range(rng.randrange(4))]
            wanted = set(planes)
            while True:
                more = {read[0] for plane in wanted for read in flow[1][plane][1:]} - wanted
                if not more:
                    break
                wanted |= more
            self.same(ask(needed, flow, *planes), tuple(sorted(wanted)))

    def test_needed_goes_far(self):
        for order in ((1, 2, 3, 4, 5, 5), (0, 0, 1, 2, 3, 4)):
            flow = (2, tuple(("copy", (source, (0, 0))) for source in order))
            last = 0 if order[0] else 5
            self.same(ask(needed, flow, last), (0, 1, 2, 3, 4, 5))
        self.same(ask(needed, flow, 2, 0, 2), (0, 1, 2))
        self.same(ask(needed, G, 0), (0, 1, 2))
        self.same(ask(needed, F, *([0] * 500)), (0,))
        self.same(ask(needed, G), ())

    def test_no_plane(self):
        for value in ODD + (3, 6, [0], (1,)):
            if is_int(value) and 0 <= value < 3:
                continue
            self.raises(NoPlane, {"plane": value}, readers_of, G, value)
            self.raises(NoPlane, {"plane": value}, needed, G, 0, value, 99)
            self.raises(NoPlane, {"plane": value}, needed, G, value, [], 0)
        self.raises(NoPlane, {"plane": 1}, readers_of, F, 1)


class Joined(Case):
    def test_joined(self):
        rng = random.Random(7)
        for _ in range(150):
            dims = rng.choice((2, 3))
            flows = [some_flow(rng, dims, rng.randint(1, 3)) for _ in range(rng.randint(1, 5))]
            if sum(len(flow[1]) for flow in flows) > 6:
                self.raises(TooMany, {"limit": 6}, joined, *flows)
                continue
            rules = []
            for flow in flows:
                before = len(rules)
                for kind, *reads in flow[1]:
                    rules.append((kind, *[(source + before, distance) for source, distance in reads]))
            self.same(ask(joined, *flows), (dims, tuple(rules)))
            self.assertTrue(is_flow(joined(*flows)))

    def test_edges(self):
        six, one = (2, F[1] * 6), F
        self.same(ask(joined, six), six)
        self.same(ask(joined, G), G)
        self.assertEqual(len(ask(joined, *[one] * 6)[1]), 6)
        self.raises(TooMany, {"limit": 6}, joined, six, one)
        self.raises(TooMany, {"limit": 6}, joined, *[one] * 7)
        self.raises(OtherDims, {}, joined, one, G)
        self.raises(OtherDims, {}, joined, G, G, one)
        self.raises(OtherDims, {}, joined, six, one, G)
        self.raises(OtherDims, {}, joined, G, six)

    def test_distances_stay(self):
        for distance in all_vectors(2, 4):
            flow = (2, (("neg", (0, distance)),))
            self.same(ask(joined, flow, flow)[1][1], ("neg", (1, distance)))


if __name__ == "__main__":
    unittest.main()
