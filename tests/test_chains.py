"""Promise 22: chains of words in a box, ranks and loops."""

import random
import unittest

from support import ODD, Case, ask, damaged, is_int, served, some_flow, variants
from test_words import less, points

from wirebeats.chains import find_ranks, longest_chain, ranks_hold
from wirebeats.errors import Looped, TooLarge

GREAT = 10 ** 9
F = (2, (("add", (0, (1, 0)), (0, (0, 1))),))
S = (2, (("add", (0, (1, -1)), (0, (-1, 1))),))
CHAIN = (2, tuple(("neg", ((k + 5) % 6, (int(k == 0), 0))) for k in range(6)))
BOXES = {2: ((1, 1), (2, 2), (1, 5), (6, 6), (3, 4), (9, 2)), 3: ((1, 1, 1), (2, 2, 2), (3, 1, 4), (2, 6, 3), (1, 1, 9))}


def reads(flow, box):
    """For each word of the box, the list of the words of the box that it reads."""
    words = {(plane, point): [] for plane in range(len(flow[1])) for point in points(box)}
    for plane, point in words:
        for source, distance in flow[1][plane][1:]:
            if (source, less(point, distance)) in words:
                words[plane, point].append((source, less(point, distance)))
    return words


def reckoned(flow, box):
    """The ranks by words, round by round, or None if they grow without end."""
    words = reads(flow, box)
    ranks = dict.fromkeys(words, 0)
    for _ in range(len(words) + 1):
        behind = {word: max((ranks[other] + 1 for other in told), default=0) for word, told in words.items()}
        if behind == ranks:
            return ranks
        ranks = behind
    return None


def is_loop(flow, box, value):
    """Whether value is a loop, by the words of the document."""
    words = reads(flow, box)
    if type(value) is not tuple or not value:
        return False
    for word in value:
        if type(word) is not tuple or len(word) != 2 or not is_int(word[0]) or type(word[1]) is not tuple:
            return False
        if not all(is_int(item) for item in word[1]) or word not in words:
            return False
    return all(value[at - 1] in words[value[at]] for at in range(len(value)))


def holds(flow, box, value):
    if type(value) is not tuple or len(value) != 2:
        return False
    if value[0] == "loop":
        return is_loop(flow, box, value[1])
    ranks = reckoned(flow, box)
    return ranks is not None and repr(value) == repr(told_ranks(flow, box, ranks))


def told_ranks(flow, box, ranks):
    return ("ranks", tuple(tuple(ranks[plane, point] for point in points(box)) for plane in range(len(flow[1]))))


def some_cases(seed, many):
    rng = random.Random(seed)
    for at in range(many):
        dims = 2 + at % 2
        if at % 3:
            flow = some_flow(rng, dims, 1 + at % 6, rng.choice((0, 1, 1, 1, 2, 4)))
        else:
            flow, _ = served(rng, dims, 1 + at % 6)
        yield rng, flow, rng.choice(BOXES[dims])


class Ranks(Case):
    def check(self, flow, box):
        found = ask(find_ranks, flow, box)
        ranks = reckoned(flow, box)
        self.assertIs(ask(ranks_hold, flow, box, found), True)
        if ranks is None:
            self.assertEqual((type(found), len(found), found[0]), (tuple, 2, "loop"))
            self.assertTrue(is_loop(flow, box, found[1]), (flow, box, found))
            self.raises(Looped, {"loop": found[1]}, longest_chain, flow, box)
            return found
        self.same(found, told_ranks(flow, box, ranks))
        chain = ask(longest_chain, flow, box)
        words = reads(flow, box)
        self.assertEqual((type(chain), len(chain)), (tuple, 1 + max(ranks.values())))
        self.assertTrue(all(type(word) is tuple and word in words for word in chain))
        self.assertTrue(all(before in words[word] for before, word in zip(chain, chain[1:])))
        return found

    def test_against_a_reckoning(self):
        words = [self.check(flow, box)[0] for _, flow, box in some_cases(201, 360)]
        self.assertGreater(words.count("ranks"), 80)
        self.assertGreater(words.count("loop"), 70)

    def test_boxes_of_one_point(self):
        self.same(self.check((2, (("neg", (0, (0, 0))),)), (1, 1)), ("loop", ((0, (0, 0)),)))
        self.same(self.check((2, (("neg", (0, (0, 1))),)), (1, 1)), ("ranks", ((0,),)))
        rules = (("add", (1, (0, 0)), (2, (0, 0))), ("neg", (2, (0, 0))), ("copy", (2, (4, -4))))
        self.same(self.check((2, rules), (1, 1)), ("ranks", ((2,), (1,), (0,))))
        self.assertEqual(self.check((2, rules[:2] + (("copy", (0, (0, 0))),)), (1, 1))[0], "loop")

    def test_full_boxes(self):
        for box in ((240, 1), (1, 240), (15, 16), (12, 20)):
            self.assertEqual(self.check(F, box)[0], "ranks")
        self.check((3, (("add", (0, (4, -4, 1)), (0, (1, 0, -4))),)), (6, 8, 5))
        self.check((3, (("neg", (0, (0, 0, -1))),)), (1, 1, 240))

    def test_a_chain_of_1440_words(self):
        expected = ("ranks", tuple(tuple(6 * at + plane for at in range(240)) for plane in range(6)))
        self.same(ask(find_ranks, CHAIN, (240, 1)), expected)
        chain = tuple((at % 6, (at // 6, 0)) for at in range(1440))
        self.same(ask(longest_chain, CHAIN, (240, 1)), chain)
        self.assertIs(ask(ranks_hold, CHAIN, (240, 1), expected), True)
        self.assertIs(ask(ranks_hold, CHAIN, (240, 1), ("loop", chain)), False)
        turned = (2, CHAIN[1][:5] + (("add", (4, (0, 0)), (0, (-1, 0))),))
        found = ask(find_ranks, turned, (240, 1))
        self.assertTrue(is_loop(turned, (240, 1), found[1]))
        around = (2, (("neg", (0, (1, 0))), ("neg", (0, (1, 0)))) + CHAIN[1][2:5] + (("least", (4, (0, 0)), (5, (1, 0))),))
        self.check(around, (240, 1))

    def test_too_large(self):
        for box in ((241, 1), (1, 241), (16, 16), (GREAT, GREAT), (3, 81)):
            for flow in (F, S, (2, (("neg", (0, (0, 0))),))):
                self.raises(TooLarge, {"limit": 240}, find_ranks, flow, box)
                self.raises(TooLarge, {"limit": 240}, longest_chain, flow, box)
                for value in ODD[:12] + (("loop", ((0, (0, 0)),)), ("ranks", ((0,),))):
                    self.raises(TooLarge, {"limit": 240}, ranks_hold, flow, box, value)
        for box in ((241, 1, 1), (5, 7, 7), (GREAT,) * 3):
            self.raises(TooLarge, {"limit": 240}, find_ranks, (3, (("neg", (0, (0, 0, 0))),)), box)


class Holds(Case):
    def test_values_bent_at_any_depth(self):
        counts = {True: 0, False: 0}
        for rng, flow, box in some_cases(202, 60):
            if len(points(box)) > 12:
                continue
            found = find_ranks(flow, box)
            values = rng.sample(variants(found), min(80, len(variants(found)))) + damaged(rng, found, 10)
            for value in values:
                self.assertIs(ask(ranks_hold, flow, box, value), holds(flow, box, value), (flow, box, value))
                counts[holds(flow, box, value)] += 1
        self.assertGreater(counts[False], 2000)

    def test_loops_turned_and_gone_round_twice(self):
        loops = 0
        for rng, flow, box in some_cases(203, 120):
            word, loop = find_ranks(flow, box)
            if word == "ranks":
                continue
            loops += 1
            for at in range(len(loop)):
                self.assertIs(ask(ranks_hold, flow, box, ("loop", loop[at:] + loop[:at])), True)
            self.assertIs(ask(ranks_hold, flow, box, ("loop", loop * 2)), True)
            for other in (loop[::-1], loop[1:], loop[:-1], loop + loop[:1], loop[:1], (), list(loop), loop * 2 + loop[:1], None):
                self.assertIs(ask(ranks_hold, flow, box, ("loop", other)), is_loop(flow, box, other))
            self.assertIs(ask(ranks_hold, flow, box, ["loop", loop]), False)
            self.assertIs(ask(ranks_hold, flow, box, ("ranks", loop)), False)
            self.assertIs(ask(ranks_hold, flow, box, ("ranks", ((0,) * len(points(box)),) * len(flow[1]))), False)
        self.assertGreater(loops, 20)

    def test_loops_of_one_word(self):
        flow = (2, (("add", (0, (1, 0)), (0, (0, 0))), ("neg", (1, (0, 1)))))
        for loop, right in (((0, (1, 1)), True), ((1, (1, 1)), False), ((0, (2, 0)), False), ((0, (-1, 0)), False), ((2, (0, 0)), False),
                            ((False, (0, 0)), False), ((0, (0, True)), False), ((0, [0, 0]), False), ([0, (0, 0)], False), ((0,), False),
                            ((0, (0, 0, 0)), False), ((0, (0,)), False), ((None, None), False), ((0, (0, 0), 0), False)):
            self.assertIs(ask(ranks_hold, flow, (2, 2), ("loop", (loop,))), right, loop)
            self.assertIs(ask(ranks_hold, flow, (2, 2), ("loop", (loop, loop))), right, loop)
        self.assertIs(ask(ranks_hold, flow, (2, 2), ("loop", ((0, (1, 1)), (0, (0, 1)), (0, (0, 0))))), False)

    def test_ranks_of_other_kinds(self):
        right = find_ranks(F, (2, 2))
        for value in ODD + (("ranks", ((0, 1, 1, 2),)), ("ranks", ((False, 1, 1, 2),)), ("ranks", ((0, True, 1, 2),)), ("ranks", ([0, 1, 1, 2],)),
                            ("ranks", [(0, 1, 1, 2)]), ("ranks", ((0, 1, 1, 2), ())), ("ranks", ((0, 1, 1),)), ("ranks", ((0, 1, 1, 3),)),
                            ("ranks", ((1, 2, 2, 3),)), ("Ranks", ((0, 1, 1, 2),)), ("loop", ((0, 1, 1, 2),)), ("ranks", ((0, 1, 1, 2),), 0)):
            self.assertIs(ask(ranks_hold, F, (2, 2), value), repr(value) == repr(right), value)
        for value in ODD:
            for word in ("ranks", "loop"):
                self.assertIs(ask(ranks_hold, F, (2, 2), (word, value)), False)
                self.assertIs(ask(ranks_hold, S, (2, 2), (word, value)), False)
                self.assertIs(ask(ranks_hold, F, (1, 1), (word, (value,))), (word, value) == ("ranks", (0,)) and is_int(value[0]))

    def test_other_boxes_and_flows(self):
        rng = random.Random(204)
        for _ in range(60):
            flow, other = some_flow(rng, 2, 2, 1), some_flow(rng, 2, 2, 1)
            box, size = tuple(rng.randint(1, 3) for _ in range(2)), tuple(rng.randint(1, 3) for _ in range(2))
            for told in (find_ranks(other, box), find_ranks(flow, size)):
                self.assertIs(ask(ranks_hold, flow, box, told), holds(flow, box, told))


if __name__ == "__main__":
    unittest.main()
