"""Promise 21: fewest waiting words."""

import itertools
import random
import unittest

from support import KINDS, ODD, Case, ask, damaged, dot, is_int, some_flow, some_vector, variants
from test_starts import some_cases
from test_ways import plain_rings, reads, source

from wirebeats.beats import beats_error, delays_of
from wirebeats.errors import BadWeights, NoStarts
from wirebeats.starts import find_starts
from wirebeats.waiting import find_waiting, waiting_holds, waiting_of

H = (2, (("copy", (0, (0, 1))), ("copy", (1, (1, 0))), ("madd", (2, (1, 1)), (0, (0, 0)), (1, (0, 0)))))


def total(flow, timing):
    return sum(delay for row in delays_of(flow, timing) for delay in row)


def gain(flow, weights, read):
    return dot(weights, flow[1][read[0]][read[1] + 1][1])


def are_shares(flow, value):
    if type(value) is not tuple or len(value) != len(flow[1]):
        return False
    for rule, row in zip(flow[1], value):
        if type(row) is not tuple or len(row) != len(rule) - 1 or not all(is_int(share) and share >= 0 for share in row):
            return False
    for plane in range(len(flow[1])):
        own = sum(1 - value[k][x] for k, x in reads(flow) if k == plane)
        if own != sum(1 - value[k][x] for k, x in reads(flow) if source(flow, (k, x)) == plane):
            return False
    return True


def told_by(flow, weights, shares):
    return sum(gain(flow, weights, (k, x)) + shares[k][x] * (1 - gain(flow, weights, (k, x))) for k, x in reads(flow))


def right(flow, weights, value):
    if type(value) is not tuple or len(value) != 3 or not is_int(value[0]):
        return False
    waiting, starts, shares = value
    if beats_error(flow, (weights, starts)) is not None or not are_shares(flow, shares):
        return False
    return total(flow, (weights, starts)) == waiting == told_by(flow, weights, shares)


def some_served(seed, many, planes=6):
    """Flows with weights that have starts, the weights up to 60 of either sign."""
    rng = random.Random(seed)
    for at in range(many):
        flow, weights = None, None
        while flow is None or find_starts(flow, weights)[0] == "ring":
            weights = some_vector(rng, 2 + at % 2, rng.choice((1, 3, 60)))
            if any(weights):
                kept = rng.choice((0, 0.1, 0.4))
                told = some_flow(rng, 2 + at % 2, 1 + at % planes, rng.choice((1, 4)))
                rules = [(rule[0], *[read if rng.random() < kept else forward(weights, read) for read in rule[1:]]) for rule in told[1]]
                flow = (told[0], tuple(rules))
        yield rng, flow, weights


def forward(weights, read):
    """The read with a distance by which the gain is above 0."""
    product = dot(weights, read[1])
    if product == 0:
        return (read[0], tuple((weight > 0) - (weight < 0) for weight in weights))
    return read if product > 0 else (read[0], tuple(-item for item in read[1]))


class Least(Case):
    def check(self, flow, weights):
        found = ask(find_waiting, flow, weights)
        self.assertTrue(right(flow, weights, found), (flow, weights, found))
        self.assertTrue(all(type(share) is int for row in found[2] for share in row))
        self.assertIs(ask(waiting_holds, flow, weights, found), True)
        self.same(ask(waiting_of, flow, (weights, found[1])), found[0])
        return found

    def test_by_trying_all_starts(self):
        done = 0
        rng = random.Random(271)
        while done < 60:
            flow = some_flow(rng, 2, rng.randint(1, 3), 2)
            weights = some_vector(rng, 2, 2)
            if find_starts(flow, weights)[0] == "ring":
                continue
            done += 1
            # The first plane starts at 0, the others within the greatest need of a way and some more.
            tried = [(0,) + starts for starts in itertools.product(range(-14, 15), repeat=len(flow[1]) - 1)]
            least = min(total(flow, (weights, starts)) for starts in tried if beats_error(flow, (weights, starts)) is None)
            self.assertEqual(self.check(flow, weights)[0], least)

    def test_flows_of_up_to_six_planes(self):
        for rng, flow, weights in some_served(272, 250):
            found = self.check(flow, weights)
            # No starts that are drawn wait less.
            for _ in range(20):
                starts = tuple(start + rng.randint(-3, 3) for start in found[1])
                if beats_error(flow, (weights, starts)) is None:
                    self.assertGreaterEqual(ask(waiting_of, flow, (weights, starts)), found[0])
            self.assertLessEqual(found[0], total(flow, (weights, find_starts(flow, weights)[1])))

    def test_full_flows(self):
        rng = random.Random(273)
        for _ in range(30):
            rules = tuple(("madd", *[(rng.randrange(6), (rng.randint(0, 4), rng.randint(1, 4))) for _ in range(3)]) for _ in range(6))
            self.check((2, rules), (rng.randint(1, 60), rng.randint(1, 60)))
            self.check((2, tuple((rule[0], *[(q, (-x, -y)) for q, (x, y) in rule[1:]]) for rule in rules)), (-9, -60))

    def test_where_the_least_starts_wait_longer(self):
        flow = (2, (("neg", (0, (1, 0))), ("madd", (0, (4, 0)), (0, (4, 0)), (0, (4, 0))), ("add", (1, (0, 0)), (1, (0, 0)))))
        self.same(total(flow, ((5, 0), find_starts(flow, (5, 0))[1])), 67)
        self.same(self.check(flow, (5, 0))[0], 10)
        late = (2, (("neg", (0, (1, 0))), ("copy", (0, (4, 0))), ("add", (1, (0, 0)), (0, (4, 0)))))
        self.check(late, (5, 0))
        self.same(find_waiting(H, (1, 1))[0], 6)

    def test_shares_that_change_by_more_than_one(self):
        one = (("add", (2, (0, 1)), (1, (4, 0))), ("copy", (1, (4, 1))), ("madd", (1, (1, 0)), (1, (2, 0)), (2, (3, 1))),
               ("madd", (2, (0, 0)), (0, (0, 1)), (1, (4, 1))))
        other = (("madd", (2, (3, 1)), (2, (1, 1)), (4, (0, 1))), ("copy", (0, (0, 0))), ("copy", (4, (3, 0))),
                 ("madd", (0, (3, 0)), (1, (1, 0)), (2, (2, 0))), ("madd", (2, (2, 0)), (2, (1, 0)), (2, (1, 0))),
                 ("add", (1, (2, 0)), (2, (3, 1))))
        self.check((2, one), (12, 0))
        self.check((2, other), (8, 0))
        rng = random.Random(276)
        for _ in range(400):
            planes = rng.randint(2, 6)
            rules = tuple((kind, *[(rng.randrange(planes), (rng.randint(0, 4), rng.randint(0, 1))) for _ in range(KINDS[kind])])
                          for kind in [rng.choice(("madd", "madd", "add", "copy")) for _ in range(planes)])
            if find_starts((2, rules), (9, 1))[0] == "starts":
                self.check((2, rules), (9, 1))

    def test_errors(self):
        for weights in ODD + ((1, 61), (1, -61), (1, 2, 3), (True, 1), [1, 1]):
            if not (type(weights) is tuple and len(weights) == 2 and all(is_int(item) and abs(item) <= 60 for item in weights)):
                self.raises(BadWeights, {"vector": weights}, find_waiting, H, weights)
                self.raises(BadWeights, {"vector": weights}, waiting_holds, H, weights, None)
        barred = 0
        for _, flow, weights in some_cases(274, 150):
            word, told = find_starts(flow, weights)
            if word == "ring":
                barred += 1
                self.assertIn(told, plain_rings(flow))
                self.raises(NoStarts, {"ring": told}, find_waiting, flow, weights)
                for value in (None, ("ring", told), (1, (0,) * len(flow[1]), ())):
                    self.raises(NoStarts, {"ring": told}, waiting_holds, flow, weights, value)
            else:
                self.check(flow, weights)
        self.assertGreater(barred, 40)

    def test_waiting_of_any_timing(self):
        rng = random.Random(275)
        for at in range(100):
            flow = some_flow(rng, 2 + at % 2, 1 + at % 6)
            timing = (some_vector(rng, flow[0], 60), some_vector(rng, len(flow[1]), 10000))
            self.same(ask(waiting_of, flow, timing), total(flow, timing))
        self.same(waiting_of(H, ((1, 1), (0, 0, 3))), 10)


class Holds(Case):
    def test_values_bent_at_any_depth(self):
        counts = {True: 0, False: 0}
        for rng, flow, weights in some_served(276, 80):
            found = waiting, starts, shares = find_waiting(flow, weights)
            values = rng.sample(variants(found), min(60, len(variants(found)))) + damaged(rng, found, 8)
            values += [(waiting, tuple(start + late for start in starts), shares) for late in (1, -7, 9000, 10001)]
            values += [(waiting + more, starts, shares) for more in (1, -1)] + [list(found), (waiting, find_starts(flow, weights)[1], shares)]
            values += [(waiting, starts, tuple((1,) * len(row) for row in shares)), (waiting, starts, tuple((0,) * len(row) for row in shares))]
            for ring in plain_rings(flow)[:6]:
                # Shares greater by one round of a ring are in balance; they are right if the ring has no slack.
                more = tuple(tuple(share + ((k, x) in ring) for x, share in enumerate(row)) for k, row in enumerate(shares))
                self.assertTrue(are_shares(flow, more))
                values.append((waiting, starts, more))
                values.append((told_by(flow, weights, more), starts, more))
            for value in values:
                self.assertIs(ask(waiting_holds, flow, weights, value), right(flow, weights, value), (flow, weights, value))
                counts[right(flow, weights, value)] += 1
        self.assertGreater(counts[True], 100)
        self.assertGreater(counts[False], 3000)

    def test_other_right_ones(self):
        one = (6, (2, 2, 3), ((0,), (0,), (0, 1, 1)))
        for value, expected in ((one, True), ((6, (0, 0, 1), ((7,), (9,), (0, 1, 1))), True), ((6, (0, 0, 1), ((0,), (0,), (1, 1, 1))), False),
                                ((6, (0, 0, 2), one[2]), False), ((8, (0, 0, 2), one[2]), False), ((6, (2, 2, 3), ((0,), (0,), (0, True, 1))), False),
                                ((6, (2, 2, 3), ((0,), (0,), [0, 1, 1])), False), ((6, [2, 2, 3], one[2]), False), ((True, (2, 2, 3), one[2]), False),
                                ((6, (2, 2, 3), ((-1,), (0,), (0, 1, 1))), False), ((6, (2, 2, 3), ((0,), (0,), (0, 2, 0))), False)):
            self.assertIs(ask(waiting_holds, H, (1, 1), value), expected, value)
            self.assertIs(right(H, (1, 1), value), expected)

    def test_values_of_all_kinds(self):
        one = (6, (2, 2, 3), ((0,), (0,), (0, 1, 1)))
        for value in ODD:
            self.assertIs(ask(waiting_holds, H, (1, 1), value), False)
            for at in range(3):
                told = one[:at] + (value,) + one[at + 1:]
                self.assertIs(ask(waiting_holds, H, (1, 1), told), right(H, (1, 1), told))
                told = one[:2] + (one[2][:at] + (value,) + one[2][at + 1:],)
                self.assertIs(ask(waiting_holds, H, (1, 1), told), right(H, (1, 1), told))


if __name__ == "__main__":
    unittest.main()
