"""Promise 19: slower beats."""

import random
import unittest
from fractions import Fraction
from math import ceil, gcd

from support import ODD, Case, ask, damaged, is_int, served, variants
from test_starts import gain, least, need, some_cases
from test_ways import are_ways, plain_rings, reads, source

from wirebeats.beats import beats_error
from wirebeats.errors import BadWeights, TooLarge
from wirebeats.slowing import factor_holds, find_factor, find_ratio, ratio_holds

G = (2, (("copy", (1, (0, 0))), ("neg", (0, (1, 0)))))


def gains(flow, weights, ring):
    return sum(gain(flow, weights, read) for read in ring)


def is_plain(flow, ring):
    return ring in plain_rings(flow)


def slow(weights, factor):
    return tuple(weight * factor for weight in weights)


def factor_of(flow, weights):
    """The least factor by all plain rings, or None."""
    told = [(len(ring), gains(flow, weights, ring)) for ring in plain_rings(flow)]
    return None if any(g <= 0 for _, g in told) else max(ceil(Fraction(length, g)) for length, g in told)


def ratio_of(flow, weights):
    told = [(len(ring), gains(flow, weights, ring)) for ring in plain_rings(flow)]
    return None if any(g <= 0 for _, g in told) else max(Fraction(length, g) for length, g in told)


def is_some_ring(flow, value):
    return type(value) is tuple and bool(value) and are_ways(flow, value)[1]


def factor_right(flow, weights, value):
    factor = factor_of(flow, weights)
    if type(value) is not tuple or not value:
        return False
    if value[0] == "never" and len(value) == 2:
        return is_some_ring(flow, value[1]) and gains(flow, weights, value[1]) <= 0
    if value[0] != "factor" or len(value) != 4 or not is_int(value[1]) or value[1] != factor:
        return False
    if beats_error(flow, (slow(weights, factor), value[2])) is not None:
        return False
    if factor == 1:
        return value[3] is None
    return is_some_ring(flow, value[3]) and len(value[3]) > gains(flow, weights, value[3]) * (factor - 1)


def ratio_right(flow, weights, value):
    if type(value) is not tuple or not value:
        return False
    if value[0] == "never" and len(value) == 2:
        return is_some_ring(flow, value[1]) and gains(flow, weights, value[1]) <= 0
    ratio = ratio_of(flow, weights)
    if value[0] != "ratio" or len(value) != 5 or ratio is None:
        return False
    _, length, given, ring, heights = value
    if not is_int(length) or not is_int(given) or (length, given) != (ratio.numerator, ratio.denominator):
        return False
    if not is_some_ring(flow, ring) or Fraction(len(ring), gains(flow, weights, ring)) != ratio:
        return False
    if type(heights) is not tuple or len(heights) != len(flow[1]) or not all(is_int(height) for height in heights):
        return False
    return all(length * gain(flow, weights, read) + heights[read[0]] - heights[source(flow, read)] >= given for read in reads(flow))


def some_slow(seed, many):
    """Flows and weights, of which many have starts when they are slowed."""
    rng = random.Random(seed)
    for at, (_, flow, weights) in enumerate(some_cases(seed, many)):
        if at % 5 < 3:
            flow, weights = some_long_rings(rng, 2 + at % 2, 1 + at % 6)
        yield rng, flow, weights


def some_long_rings(rng, dims, planes):
    """A flow with long rings of few gains; the last item of the weights does nothing, but may grow too great."""
    weights = (rng.choice((1, 1, 1, 2)),) + (0,) * (dims - 2) + (rng.choice((0, 1, rng.randint(-60, 60))),)
    share = rng.choice((0.5, 0.7, 0.9))
    rules = []
    for k in range(planes):
        kind = rng.choice(("copy", "neg", "add", "madd"))
        many = {"add": 2, "madd": 3}.get(kind, 1)
        sources = [(k + rng.choice((1, 1, 1, 1, 2))) % planes for _ in range(many)]
        rules.append((kind, *[(q, (int(rng.random() < share),) + (0,) * (dims - 1)) for q in sources]))
    return (dims, tuple(rules)), weights


class Factors(Case):
    def check(self, flow, weights):
        factor = factor_of(flow, weights)
        if factor is not None and max(map(abs, weights)) * factor > 60:
            self.raises(TooLarge, {"limit": 60}, find_factor, flow, weights)
            self.raises(TooLarge, {"limit": 60}, factor_holds, flow, weights, None)
            return 0
        found = ask(find_factor, flow, weights)
        self.assertIs(ask(factor_holds, flow, weights, found), True)
        if factor is None:
            self.assertEqual((len(found), found[0]), (2, "never"))
            self.assertTrue(is_plain(flow, found[1]) and gains(flow, weights, found[1]) <= 0)
            return None
        starts = least(flow, slow(weights, factor))
        self.same(found[:3], ("factor", factor, starts))
        self.assertTrue(factor_right(flow, weights, found))
        self.assertTrue(found[3] is None if factor == 1 else is_plain(flow, found[3]))
        # Trying one to six: the least one with starts.
        self.assertTrue(all(any(need(flow, slow(weights, tried), ring) > 0 for ring in plain_rings(flow)) for tried in range(1, factor)))
        return factor

    def test_against_all_plain_rings(self):
        found = [self.check(flow, weights) for _, flow, weights in some_slow(251, 330)]
        for factor in (None, 0, 1, 2, 3, 4, 5):
            self.assertGreater(found.count(factor), 3, factor)

    def test_rings_of_few_gains(self):
        for planes in range(1, 7):
            for many in range(0, planes + 1):
                rules = tuple(("neg", ((k + 1) % planes, (int(k < many), 0))) for k in range(planes))
                self.assertEqual(self.check((2, rules), (1, 0)), ceil(Fraction(planes, many)) if many else None)
                self.assertEqual(self.check((2, rules), (-1, 7)), None)

    def test_weights_that_grow_too_great(self):
        flow = (2, (("neg", (1, (1, 0))), ("copy", (2, (0, 0))), ("copy", (0, (0, 0)))))
        for other in (19, 20, 21, -20, -21, 60, -60):
            self.assertEqual(self.check(flow, (1, other)), 3 if abs(other) <= 20 else 0)
        self.same(find_factor(flow, (3, 60))[:2], ("factor", 1))
        for weights in ODD + ((1, 61), (1, -61), (1, 2, 3), (True, 60), [1, 60], (1,)):
            if not (type(weights) is tuple and len(weights) == 2 and all(is_int(item) and abs(item) <= 60 for item in weights)):
                for function in (find_factor, find_ratio):
                    self.raises(BadWeights, {"vector": weights}, function, flow, weights)
                for function in (factor_holds, ratio_holds):
                    self.raises(BadWeights, {"vector": weights}, function, flow, weights, ("never", ((0, 0),)))

    def test_values_bent_at_any_depth(self):
        counts = {True: 0, False: 0}
        for rng, flow, weights in some_slow(252, 120):
            try:
                found = find_factor(flow, weights)
            except TooLarge:
                continue
            values = rng.sample(variants(found), min(40, len(variants(found)))) + damaged(rng, found, 8) + self.others(rng, flow, found)
            for value in values:
                self.assertIs(ask(factor_holds, flow, weights, value), factor_right(flow, weights, value), (flow, weights, value))
                counts[factor_right(flow, weights, value)] += 1
        self.assertGreater(counts[True], 150)
        self.assertGreater(counts[False], 1500)

    def others(self, rng, flow, found):
        """Answers that may be right, too: other rings, rings gone round twice, other starts, other factors."""
        rings = plain_rings(flow)
        some = rng.sample(rings, min(4, len(rings)))
        some = some + [ring * 2 for ring in some] + [ring[1:] + ring[:1] for ring in some] + [None]
        if found[0] == "never":
            return [("never", ring) for ring in some] + [("factor", 1, (0,) * len(flow[1]), None)]
        _, factor, starts, ring = found
        values = [("factor", factor, starts, other) for other in some] + [("never", other) for other in some]
        values += [("factor", factor, tuple(start + late for start in starts), ring) for late in (1, -5, 9000, 10001)]
        return values + [("factor", factor + more, starts, ring) for more in (-1, 1, 2)] + [("factor", bool(factor), starts, ring)]

    def test_values_of_all_kinds(self):
        for weights in ((1, 5), (0, 5), (2, 0)):
            for value in ODD + tuple((word, told) for word in ("never", "factor") for told in ODD):
                self.assertIs(ask(factor_holds, G, weights, value), factor_right(G, weights, value))
                self.assertIs(ask(ratio_holds, G, weights, value), ratio_right(G, weights, value))
            for told in ODD:
                for value in (("factor", told, (1, 0), None), ("factor", 2, told, ((0, 0), (1, 0))), ("factor", 2, (1, 0), told)):
                    self.assertIs(ask(factor_holds, G, weights, value), factor_right(G, weights, value))
        self.assertIs(factor_holds(G, (2, 0), ("factor", 1, (1, 0), None)), True)
        self.assertIs(factor_holds(G, (2, 0), ("factor", True, (1, 0), None)), False)
        self.assertIs(factor_holds(G, (2, 0), ("factor", 1, (1, 0), ((0, 0), (1, 0)))), False)


class Ratios(Case):
    def check(self, flow, weights):
        found = ask(find_ratio, flow, weights)
        ratio = ratio_of(flow, weights)
        self.assertTrue(ratio_right(flow, weights, found), (flow, weights, found))
        self.assertIs(ask(ratio_holds, flow, weights, found), True)
        self.assertEqual(found[0], "never" if ratio is None else "ratio")
        self.assertTrue(is_plain(flow, found[1 if ratio is None else 3]))
        return ratio

    def test_against_all_plain_rings(self):
        ratios = [self.check(flow, weights) for _, flow, weights in some_slow(253, 330)]
        self.assertGreater(ratios.count(None), 50)
        self.assertGreater(len(set(ratios)), 40)

    def test_full_flows(self):
        rng = random.Random(254)
        for _ in range(6):
            rules = tuple(("madd", *[(rng.randrange(6), (rng.randint(0, 4), rng.randint(0, 4))) for _ in range(3)]) for _ in range(6))
            self.check((2, rules), (rng.randint(1, 60), rng.randint(1, 60)))
        rules = tuple(("madd", *[((k + 5) % 6, (4 * int(j != k % 3), j)) for j in range(3)]) for k in range(6))
        self.check((2, rules), (7, 60))
        self.check((2, rules), (0, 1))

    def test_values_bent_at_any_depth(self):
        counts = {True: 0, False: 0}
        for rng, flow, weights in some_slow(255, 120):
            found = find_ratio(flow, weights)
            rings = plain_rings(flow)
            some = [ring for ring in rng.sample(rings, min(5, len(rings)))]
            some = some + [ring * 2 for ring in some] + [ring[1:] + ring[:1] for ring in some] + [None]
            values = rng.sample(variants(found), min(40, len(variants(found)))) + damaged(rng, found, 8) + [("never", ring) for ring in some]
            if found[0] == "ratio":
                _, length, given, ring, heights = found
                values += [("ratio", length, given, other, heights) for other in some]
                values += [("ratio", length * 2, given * 2, ring, heights), ("ratio", length, given, ring * 3, heights)]
                values += [("ratio", length, given, ring, tuple(height + late for height in heights)) for late in (3, -10 ** 30, 10 ** 30)]
                values += [("ratio", len(other), gains(flow, weights, other), other, heights) for other in some if other]
                values += [("ratio", length, given, ring, (10 ** 30,) + heights[1:]), ("ratio", -length, -given, ring, heights)]
            for value in values:
                self.assertIs(ask(ratio_holds, flow, weights, value), ratio_right(flow, weights, value), (flow, weights, value))
                counts[ratio_right(flow, weights, value)] += 1
        self.assertGreater(counts[True], 150)
        self.assertGreater(counts[False], 1500)

    def test_lowest_terms(self):
        rules = tuple(("neg", ((k + 1) % 4, (int(k < 2), 0))) for k in range(4))
        found = find_ratio((2, rules), (3, 0))
        self.same(found[:3], ("ratio", 2, 3))
        self.assertEqual(gcd(found[1], found[2]), 1)
        self.assertIs(ratio_holds((2, rules), (3, 0), ("ratio", 4, 6) + found[3:]), False)
        self.same([find_factor(G, (1, 5)), find_factor(G, (0, 5)), find_ratio(G, (1, 5))[:3]],
                  [("factor", 2, (1, 0), ((0, 0), (1, 0))), ("never", ((0, 0), (1, 0))), ("ratio", 2, 1)])

    def test_rings_without_gains_have_no_ratio(self):
        ring = ((0, 0), (1, 0))
        for weights in ((0, 5), (-1, 5), (1, 5)):
            for length, given in ((1, 0), (0, 1), (0, 0), (2, 0), (-1, 0), (-2, 1), (2, -1), (-2, -1), (1, True), (True, 0)):
                for heights in ((0, 0), (0, -1), (10 ** 6, 10 ** 6)):
                    self.assertIs(ask(ratio_holds, G, weights, ("ratio", length, given, ring, heights)), False)
        self.assertIs(ask(ratio_holds, G, (1, 5), ("ratio", 2, 1, ring, (1, 0))), True)

    def test_served_flows_have_the_factor_one(self):
        rng = random.Random(256)
        for at in range(60):
            flow, beats = served(rng, 2 + at % 2, 1 + at % 6)
            self.same(find_factor(flow, beats[0])[1::2], (1, None))
            self.assertLessEqual(ratio_of(flow, beats[0]), 1)
            self.check(flow, beats[0])


if __name__ == "__main__":
    unittest.main()
