"""Promises 10 to 14: words, and flows as objects."""

import random
import sys
import unittest

from support import KINDS, ODD, Case, ask, damaged, dot, is_int, listed, served, some_flow, some_vector

from wirebeats.beats import beats_error
from wirebeats.boxes import box_error
from wirebeats.errors import BadBeats, BadBox, BadFlow, BadOutside, NoPlane, NoPoint, OtherDims, TooLarge, TooMany
from wirebeats.flows import flow_error, joined, reads_of
from wirebeats.flowtexts import flow_text
from wirebeats.words import Flow, each_word, outside_error, word_at, words_of

M = 65521
GREAT = 10 ** 9
F = (2, (("add", (0, (1, 0)), (0, (0, 1))),))
G = (2, (("copy", (1, (0, 0))), ("neg", (0, (1, 0)))))
BOXES = {2: ((1, 1), (2, 3), (4, 4), (7, 2), (1, 9), (5, 6)), 3: ((1, 1, 1), (2, 3, 2), (3, 1, 4), (2, 2, 5))}
all_words = listed(each_word)


def points(box):
    vectors = [()]
    for size in box:
        vectors = [vector + (item,) for vector in vectors for item in range(size)]
    return vectors


def inside(box, vector):
    return all(0 <= item < size for item, size in zip(vector, box))


def less(one, other):
    return tuple(left - right for left, right in zip(one, other))


def reckoned(flow, box, outside):
    """All words by their definition, without any beats: what a word is made of is made when it is needed."""
    words = {(plane, vector): word for plane, vector, word in outside}
    sys.setrecursionlimit(20000)

    def word(plane, vector):
        if (plane, vector) not in words and inside(box, vector):
            kind, *reads = flow[1][plane]
            x = [word(source, less(vector, distance)) for source, distance in reads]
            made = {"copy": lambda: x[0], "neg": lambda: -x[0] % M, "add": lambda: (x[0] + x[1]) % M,
                    "sub": lambda: (x[0] - x[1]) % M, "mul": lambda: x[0] * x[1] % M, "least": lambda: min(x),
                    "most": lambda: max(x), "madd": lambda: (x[0] + x[1] * x[2]) % M}
            words[plane, vector] = made[kind]()
        return words.get((plane, vector), 0)
    return tuple(tuple(word(plane, point) for point in points(box)) for plane in range(len(flow[1])))


def read_outside(flow, box):
    """The ascending list of (plane, vector) of all outside words that are read."""
    found = {(source, less(point, distance)) for _, _, source, distance in reads_of(flow) for point in points(box)}
    return sorted(told for told in found if not inside(box, told[1]))


def some_outside(rng, flow, box, share=0.8):
    """Words for most of what is read, for each kind of word, and some that nothing reads."""
    told = [item for item in read_outside(flow, box) if rng.random() < share]
    for _ in range(3):
        told.append((rng.randrange(len(flow[1])), tuple(rng.choice((-GREAT, size, GREAT + size - 1)) for size in box)))
    entries = [(plane, vector, rng.choice((0, 1, 2, M - 1, rng.randrange(M)))) for plane, vector in sorted(set(told))]
    return tuple(entries[:1000])


def some_cases(seed, many, late=50):
    """Served flows of all numbers of planes with a small box and an outside."""
    rng = random.Random(seed)
    for at in range(many):
        dims = 2 + at % 2
        flow, beats = served(rng, dims, 1 + at % 6, late=late if at % 6 < 4 else 5)
        box = rng.choice(BOXES[dims])
        yield rng, flow, beats, box, some_outside(rng, flow, box)


def reasons(flow, box, value):
    """All reasons why value is no outside, in the order of the document."""
    if type(value) is not tuple or len(value) > 1000:
        yield (None, "outside")
        return
    for index, entry in enumerate(value):
        if type(entry) is not tuple or len(entry) != 3:
            yield (index, "entry")
            return
        plane, vector, word = entry
        if not is_int(plane) or plane not in range(len(flow[1])):
            yield (index, "plane")
        if type(vector) is not tuple or len(vector) != len(box) or not all(is_int(item) for item in vector):
            yield (index, "vector")
        elif any(item < -GREAT or item > GREAT + size - 1 for item, size in zip(vector, box)) or inside(box, vector):
            yield (index, "vector")
        if not is_int(word) or word not in range(M):
            yield (index, "word")
        if index and (plane, vector) <= value[index - 1][:2]:
            yield (index, "order")


def first_reason(flow, box, value):
    for reason in reasons(flow, box, value):
        return reason
    return None


class OutsideErrors(Case):
    def check(self, flow, box, value, *expected):
        reason = expected[0] if expected else first_reason(flow, box, value)
        self.same(first_reason(flow, box, value), reason)
        self.same(ask(outside_error, flow, box, value), reason, flow, box, value)

    def test_outsides(self):
        rng = random.Random(81)
        for at in range(150):
            flow = some_flow(rng, 2 + at % 2, 1 + at % 6)
            box = rng.choice(BOXES[flow[0]])
            self.check(flow, box, some_outside(rng, flow, box)[:60], None)
            self.check(flow, box, (), None)

    def test_one_thing_wrong(self):
        rng = random.Random(82)
        wrong = 0
        for at in range(60):
            flow = some_flow(rng, 2 + at % 2, 1 + at % 4)
            box = rng.choice(BOXES[flow[0]] + ((GREAT,) * flow[0],))
            near = [(-1,) * flow[0], (-GREAT,) * flow[0], tuple(GREAT + size - 1 for size in box), (-2,) + box[1:]]
            entries = sorted({(rng.randrange(len(flow[1])), vector) for vector in near})
            outside = tuple((plane, vector, rng.randrange(M)) for plane, vector in entries)
            self.check(flow, box, outside, None)
            for value in damaged(rng, outside, 40):
                self.check(flow, box, value)
                wrong += first_reason(flow, box, value) is not None
        self.assertGreater(wrong, 2000)

    def test_vectors(self):
        for box in ((2, 3), (GREAT, 1), (GREAT, GREAT)):
            s, t = box
            for vector, right in (((-1, 0), True), ((0, -1), True), ((s, 0), True), ((0, t), True), ((0, 0), False),
                                  ((s - 1, t - 1), False), ((-GREAT, -GREAT), True), ((-GREAT - 1, 0), False),
                                  ((0, -GREAT - 1), False), ((GREAT + s - 1, GREAT + t - 1), True),
                                  ((GREAT + s, 0), False), ((-1, GREAT + t), False), ((True, -1), False), ((-1,), False),
                                  ((-1, False), False), ([-1, 0], False), ((-1, 0, 0), False), ((), False), (None, False),
                                  ((-1, None), False), ((10 ** 39, 0), False), ((-1, "0"), False), ((0, (-1,)), False)):
                self.check(F, box, ((0, vector, 0),), None if right else (0, "vector"))
                self.check(F, box, ((0, vector, None),), (0, "word") if right else (0, "vector"))
        box = (GREAT, 7, 2)
        flow = (3, (("neg", (0, (1, 0, 0))),))
        self.check(flow, box, ((0, (0, 6, 2), 1), (0, (GREAT - 1, 7, 0), 1), (0, (2 * GREAT - 1, 0, 0), 1)), None)
        self.check(flow, box, ((0, (0, 6, 2), 1), (0, (GREAT - 1, 6, 0), 1)), (1, "vector"))

    def test_words_and_planes(self):
        for word, right in ((0, True), (1, True), (M - 1, True), (M, False), (-1, False), (True, False), (False, False),
                            (None, False), ("1", False), ((1,), False), (10 ** 39, False)):
            self.check(F, (2, 3), ((0, (-1, 0), word),), None if right else (0, "word"))
        for plane, right in ((0, True), (1, True), (2, False), (-1, False), (True, False), (False, False), (None, False)):
            self.check(G, (2, 3), ((plane, (-1, 0), 5),), None if right else (0, "plane"))
            self.check(G, (2, 3), ((plane, None, None),), (0, "vector") if right else (0, "plane"))
        for entry in ((), (0, (-1, 0)), [0, (-1, 0), 1], (0, (-1, 0), 1, 1), None, 0, "entry", {}):
            self.check(G, (2, 3), ((0, (-1, 0), 1), entry), (1, "entry"))

    def test_order(self):
        one, two, three = (0, (-1, 0), 9), (0, (0, -1), 3), (1, (-1, 0), 1)
        for value, error in (((one, two, three), None), ((two, one, three), (1, "order")), ((one, three, two), (2, "order")),
                             ((one, one), (1, "order")), ((one, one[:2] + (10,)), (1, "order")), ((three, two), (1, "order")),
                             ((one, two, two, three), (2, "order")), ((two, one[:2] + (M,)), (1, "word")),
                             ((two, one, None), (1, "order"))):
            self.check(G, (2, 3), value, error)

    def test_many(self):
        entries = tuple((0, (-1, at), at) for at in range(1001))
        self.check(F, (2, 3), entries[:1000], None)
        self.check(F, (2, 3), entries, (None, "outside"))
        self.check(F, (2, 3), entries[:999] + (None,), (999, "entry"))
        self.check(F, (2, 3), (None,) * 1001, (None, "outside"))
        for value in ODD + ([], [(0, (-1, 0), 1)], {}, entries * 19):
            self.check(F, (2, 3), value)
        self.same(ask(words_of, F, ((1, 1), (0,)), (1, 1), entries[:1000]), ((0,),))


class Words(Case):
    def check(self, flow, beats, box, outside):
        expected = reckoned(flow, box, outside)
        self.same(ask(words_of, flow, beats, box, outside), expected, flow, beats, box, outside)
        told = [(dot(beats[0], point) + beats[1][plane], plane, point, word)
                for plane, row in enumerate(expected) for point, word in zip(points(box), row)]
        self.same(ask(all_words, flow, beats, box, outside), sorted(told))
        return expected

    def test_against_a_reckoning(self):
        kinds = set()
        for rng, flow, beats, box, outside in some_cases(83, 240):
            expected = self.check(flow, beats, box, outside)
            kinds |= {rule[0] for rule in flow[1]}
            for _ in range(3):
                plane, at = rng.randrange(len(flow[1])), rng.randrange(len(points(box)))
                self.same(ask(word_at, flow, beats, box, outside, plane, points(box)[at]), expected[plane][at])
        self.assertEqual(kinds, set(KINDS))

    def test_each_kind(self):
        outside = ((0, (-1, 0), 7), (0, (0, -1), M - 2), (0, (0, 1), 300))
        for rule, word in ((("copy", (0, (1, 0))), 7), (("neg", (0, (1, 0))), M - 7), (("neg", (0, (2, 2))), 0),
                           (("add", (0, (1, 0)), (0, (0, 1))), 5), (("sub", (0, (1, 0)), (0, (0, 1))), 9),
                           (("sub", (0, (0, 1)), (0, (1, 0))), M - 9), (("mul", (0, (0, 1)), (0, (1, 0))), M - 14),
                           (("mul", (0, (0, -1)), (0, (0, -1))), 90000 - M), (("least", (0, (1, 0)), (0, (0, 1))), 7),
                           (("least", (0, (0, 1)), (0, (1, 0))), 7), (("most", (0, (1, 0)), (0, (0, 1))), M - 2),
                           (("most", (0, (0, 1)), (0, (1, 0))), M - 2), (("most", (0, (3, 3)), (0, (2, 2))), 0),
                           (("madd", (0, (1, 0)), (0, (0, 1)), (0, (0, -1))), M + 7 - 600),
                           (("madd", (0, (0, -1)), (0, (1, 0)), (0, (0, 1))), 286),
                           (("madd", (0, (0, 1)), (0, (0, -1)), (0, (1, 0))), 2098)):
            rules = (rule[:1] + tuple((1, read[1]) for read in rule[1:]), ("copy", (1, (4, 4))))
            entries = tuple((1, vector, told) for _, vector, told in outside)
            self.same(ask(words_of, (2, rules), ((5, 6), (20, 0)), (1, 1), entries), ((word,), (0,)), rule)

    def test_full_boxes(self):
        rng = random.Random(84)
        for box in ((240, 1), (1, 240), (15, 16), (12, 20), (2, 120), (4, 6, 10), (240, 1, 1), (1, 1, 240)):
            for planes in (1, 6):
                flow, beats = served(rng, len(box), planes, late=8)
                self.check(flow, beats, box, some_outside(rng, flow, box))
        for box in ((241, 1), (1, 241), (16, 16), (GREAT, GREAT), (5, 7, 7), (241, 1, 1)):
            flow, beats = served(rng, len(box), 1)
            for outside in ((), None):
                self.raises(TooLarge, {"limit": 240}, words_of, flow, beats, box, outside)
                self.raises(TooLarge, {"limit": 240}, all_words, flow, beats, box, outside)
                self.raises(TooLarge, {"limit": 240}, word_at, flow, beats, box, outside, None, None)

    def test_one_chain(self):
        rules = (("add", (0, (0, 1)), (0, (4, 4))),)
        chain = self.check((2, rules), ((0, 1), (0,)), (1, 240), ((0, (-4, -4), 1), (0, (0, -1), 9)))
        self.assertEqual(chain[0][:3] + chain[0][-1:], (10, 10, 10, 10))
        snake = (2, (("sub", (0, (0, 1)), (1, (0, 0))), ("madd", (1, (0, 1)), (0, (0, 1)), (0, (0, 1)))))
        self.check(snake, ((0, 2), (1, 0)), (1, 240), ((0, (0, -1), 3), (1, (0, -1), 5)))
        self.check((3, (("neg", (0, (0, -1, 0))),)), ((0, -60, 0), (10000,)), (1, 240, 1), ((0, (0, 240, 0), 3),))

    def test_the_longest_chain(self):
        flow = (2, tuple(("neg", ((k + 5) % 6, (int(k == 0), 0))) for k in range(6)))
        beats, outside = ((6, 0), (0, 1, 2, 3, 4, 5)), ((5, (-1, 0), 1),)
        rows = self.check(flow, beats, (240, 1), outside)
        self.same(rows, tuple((M - 1, 1)[plane % 2:plane % 2 + 1] * 240 for plane in range(6)))
        for plane in range(6):
            for at in (0, 1, 100, 239):
                self.same(ask(word_at, flow, beats, (240, 1), outside, plane, (at, 0)), rows[plane][at])
        late = all_words(flow, beats, (240, 1), outside)
        self.same([late[0], late[7], late[1439]], [(0, 0, (0, 0), M - 1), (7, 1, (1, 0), 1), (1439, 5, (239, 0), 1)])

    def test_each_kind_in_chains(self):
        rng = random.Random(96)
        for kind, many in KINDS.items():
            for box in ((12, 20), (3, 5, 16), (1, 1), (2, 1, 2), (240, 1), (1, 1, 240)):
                for sign in (1, -1):
                    weights = tuple(sign * rng.randint(1, 60) for _ in box)
                    distances = [tuple(sign * rng.randint(0, 4) for _ in box) for _ in range(4 * many)]
                    distances = [d if any(d) else (sign,) + d[1:] for d in distances]
                    rules = tuple((kind, *[(rng.randrange(4), distances.pop()) for _ in range(many)]) for _ in range(4))
                    flow = (len(box), rules)
                    outside = some_outside(rng, flow, box)
                    rows = self.check(flow, (weights, (0,) * 4), box, outside)
                    for _ in range(3):
                        plane, at = rng.randrange(4), rng.randrange(len(rows[0]))
                        self.same(word_at(flow, (weights, (0,) * 4), box, outside, plane, points(box)[at]), rows[plane][at])

    def test_outside_words_at_the_edge_of_reach(self):
        rules = (("add", (0, (4, 4)), (0, (4, -4))), ("most", (0, (-4, 4)), (0, (4, 3))))
        box = (2, 3)
        reach = [(x, y) for x in range(-6, 8) for y in range(-6, 9) if not inside(box, (x, y))]
        for flow, beats in (((2, rules), ((1, 0), (0, 5))), ((2, rules[:1]), ((60, 2), (-9,)))):
            for vector in reach:
                for plane in range(len(flow[1])):
                    self.check(flow, beats, box, ((plane, vector, 7),))

    def test_errors_in_their_order(self):
        good, bad = ((0, (-1, 0), 1),), ((0, (0, 0), 1),)
        beats = ((1, 1), (0,))
        for plane in ODD + (1, -1):
            if not (is_int(plane) and plane == 0):
                self.raises(NoPlane, {"plane": plane}, word_at, F, beats, (2, 3), good, plane, (1, 2))
                self.raises(NoPlane, {"plane": plane}, word_at, F, beats, (2, 3), good, plane, (2, 2))
            self.raises(BadOutside, {"error": (0, "vector")}, word_at, F, beats, (2, 3), bad, plane, (2, 2))
            self.raises(TooLarge, {"limit": 240}, word_at, F, beats, (2, 121), bad, plane, (1, 2))
        for point in ODD + ((2, 0), (0, 3), (-1, 0), (0, -1), (0,), (0, 0, 0), [0, 0], (True, 0), (0, False)):
            if type(point) is tuple and len(point) == 2 and all(is_int(item) for item in point) and inside((2, 3), point):
                continue
            self.raises(NoPoint, {"point": point}, word_at, F, beats, (2, 3), good, 0, point)
        for value in ODD + (bad, good * 2, good + bad, [good[0]]):
            error = first_reason(F, (2, 3), value)
            if error:
                for function in (words_of, all_words):
                    self.raises(BadOutside, {"error": error}, function, F, beats, (2, 3), value)
                self.raises(BadOutside, {"error": error}, word_at, F, beats, (2, 3), value, 0, (0, 0))

    def test_each_word_by_turns(self):
        for _, flow, beats, box, outside in some_cases(85, 12):
            whole = all_words(flow, beats, box, outside)
            one, other = each_word(flow, beats, box, outside), each_word(flow, beats, box, outside)
            taken = []
            for at, told in enumerate(one):
                taken.append(told)
                if at % 2:
                    self.same((next(other), next(other)), (taken[at - 1], told))
                if at == len(whole) // 2:
                    break
            self.same(taken, whole[:len(taken)])
            self.same(taken + list(one), whole)
            self.same(all_words(flow, beats, box, outside), whole)
            self.assertIsNone(next(one, None))

    def test_each_word_raises_as_it_begins(self):
        for box, outside, error in (((241, 1), (), TooLarge), ((2, 2), None, BadOutside), ((2, 2), ((0, (0, 0), 1),), BadOutside)):
            with self.assertRaises(error):
                next(each_word(F, ((1, 1), (0,)), box, outside))

    def test_other_beats(self):
        others = 0
        for rng, flow, (weights, starts), box, outside in some_cases(86, 120):
            words = words_of(flow, (weights, starts), box, outside)
            lates = [tuple(start + late for start in starts) for late in (7, -9000)]
            lates += [tuple(start + rng.randint(-3, 3) for start in starts) for _ in range(20)]
            tried = [(weights, late) for late in lates] + [(tuple(2 * w for w in weights), tuple(2 * s for s in starts))]
            tried += [(some_vector(rng, flow[0], 20), starts) for _ in range(20)]
            for beats in tried:
                if beats_error(flow, beats) is None:
                    others += 1
                    self.same(ask(words_of, flow, beats, box, outside), words)
        self.assertGreater(others, 300)

    def test_dimensions_exchanged_and_turned_round(self):
        def turned(box, axis, vector):
            return vector[:axis] + (box[axis] - 1 - vector[axis],) + vector[axis + 1:]

        def opposite(axis, vector):
            return vector[:axis] + (-vector[axis],) + vector[axis + 1:]
        for rng, flow, (weights, starts), box, outside in some_cases(87, 90):
            words = words_of(flow, (weights, starts), box, outside)
            order = rng.sample(range(flow[0]), flow[0])
            axis = rng.randrange(flow[0])
            for there, move, in ((lambda v: tuple(v[at] for at in order), lambda d: tuple(d[at] for at in order)),
                                 (lambda v: turned(box, axis, v), lambda d: opposite(axis, d))):
                other = (flow[0], tuple((rule[0], *[(q, move(d)) for q, d in rule[1:]]) for rule in flow[1]))
                size = tuple(abs(item) for item in move(box))
                entries = tuple(sorted((plane, there(vector), word) for plane, vector, word in outside))
                found = ask(words_of, other, (move(weights), starts), size, entries)
                at = {point: index for index, point in enumerate(points(size))}
                self.same(tuple(tuple(row[at[there(point)]] for point in points(box)) for row in found), words)

    def test_joined_flows_keep_their_words(self):
        rng = random.Random(88)
        for at in range(60):
            dims = 2 + at % 2
            weights = some_vector(rng, dims, 20)
            if not any(weights):
                continue
            one, (_, starts) = served(rng, dims, 1 + at % 3, weights)
            other, (_, others) = served(rng, dims, 1 + at % 2, weights)
            box = rng.choice(BOXES[dims])
            first, second = some_outside(rng, one, box), some_outside(rng, other, box)
            moved = tuple((plane + len(one[1]), vector, word) for plane, vector, word in second)
            words = ask(words_of, joined(one, other), (weights, starts + others), box, (first + moved)[:1000])
            self.assertLessEqual(len(first + moved), 1000)
            self.same(words, reckoned(one, box, first) + reckoned(other, box, second))

    def test_box_cut_out_of_a_great_one(self):
        rng = random.Random(89)
        for at in range(60):
            dims = 2 + at % 2
            flow, beats = served(rng, dims, 1 + at % 3)
            great = {2: (9, 11), 3: (5, 5, 6)}[dims]
            outside = some_outside(rng, flow, great)
            words = dict(((plane, point), word) for plane, row in enumerate(reckoned(flow, great, outside))
                         for point, word in zip(points(great), row))
            words.update(((plane, vector), word) for plane, vector, word in outside)
            corner = tuple(rng.randrange(size - 1) for size in great)
            box = tuple(rng.randint(1, size - low) for size, low in zip(great, corner))
            lead = tuple(-item for item in corner)
            entries = [(plane, vector, words.get((plane, less(vector, lead)), 0)) for plane, vector in read_outside(flow, box)]
            found = ask(words_of, flow, beats, box, tuple(entries))
            self.same(found, tuple(tuple(words[plane, less(point, lead)] for point in points(box))
                                   for plane in range(len(flow[1]))))


def flow_tells(one):
    return (one.value, one.dims, one.rules, one.reads, len(one), str(one), [one[plane] for plane in range(len(one))])


class Flows(Case):
    def test_both_ways_of_making_one(self):
        rng = random.Random(90)
        for at in range(80):
            flow = some_flow(rng, 2 + at % 2, 1 + at % 6)
            for one in (Flow(flow), Flow.of(flow[0], *flow[1])):
                self.assertIs(type(one), Flow)
                self.same(flow_tells(one), (flow, flow[0], flow[1], reads_of(flow), len(flow[1]), flow_text(flow), list(flow[1])))
                self.assertTrue(one == Flow(flow) and not one != Flow(flow))
            self.assertTrue(Flow.of(5 - flow[0], ("neg", (0, (0,) * (5 - flow[0])))) != Flow(flow))

    def test_values_that_are_none(self):
        rng = random.Random(91)
        values = list(ODD)
        for at in range(30):
            values += damaged(rng, some_flow(rng, 2 + at % 2, 1 + at % 3), 20)
        wrong = 0
        for value in values:
            error = flow_error(value)
            if error is None:
                continue
            wrong += 1
            self.raises(BadFlow, {"error": error}, Flow, value)
            if type(value) is tuple and len(value) == 2 and type(value[1]) is tuple:
                self.raises(BadFlow, {"error": error}, Flow.of, value[0], *value[1])
        self.assertGreater(wrong, 300)
        self.raises(BadFlow, {"error": (None, "rules")}, Flow.of, 2)
        self.raises(BadFlow, {"error": (None, "dims")}, Flow.of, 4)
        self.raises(BadFlow, {"error": (None, "dims")}, Flow.of, True, *F[1])
        self.raises(BadFlow, {"error": (None, "rules")}, Flow.of, 2, *(F[1] * 7))
        self.raises(BadFlow, {"error": (0, "rule")}, Flow.of, 2, F[1])

    def test_rules_by_their_plane(self):
        one = Flow(G)
        for plane in ODD + (-1, 2, slice(0, 1), "0"):
            if is_int(plane) and plane in (0, 1):
                self.assertIs(one[plane], G[1][plane])
            else:
                self.raises(NoPlane, {"plane": plane}, lambda at: one[at], plane)

    def test_in(self):
        rng = random.Random(92)
        one = Flow((2, (("copy", (1, (0, 0))), ("neg", (0, (1, 0))), ("add", (0, (1, 1)), (1, (0, 1))))))
        for rule in one.rules:
            self.assertIs(ask(one.__contains__, rule), True)
            self.assertTrue(rule in one)
            for value in damaged(rng, rule, 150):
                self.assertIs(ask(one.__contains__, value), any(repr(value) == repr(other) for other in one.rules))
        for value in ODD + (one, one.value, one.rules, list(one.rules[0]), ("copy", (True, (0, 0))), ("copy", (1, (False, 0))),
                            ("copy", (1, (0, False))), ("neg", (False, (1, 0))), ("neg", (0, (True, 0))),
                            ("add", (0, (1, 1)), (True, (0, 1))), ("add", (0, (1, 1)), (1, (0, True))), ("neg", one)):
            self.assertFalse(value in one)
        self.assertFalse(("neg", (0, (1, 0))) in Flow(F))

    def test_equality_and_loops(self):
        one = Flow(G)
        for value in ODD + (G, list(G), str(one), one.rules, Flow(F), None):
            self.assertFalse(one == value)
            self.assertTrue(one != value)
            self.assertFalse(value == one)
        with self.assertRaises(TypeError):
            iter(one)
        with self.assertRaises(TypeError):
            list(one)
        with self.assertRaises(TypeError):
            for _ in one:
                self.fail()

    def test_calls(self):
        for _, flow, beats, box, outside in some_cases(93, 40):
            one = Flow(flow)
            self.same(one(beats, box, outside), reckoned(flow, box, outside))
            self.same(one(beats, box, outside), words_of(flow, beats, box, outside))
            self.same(flow_tells(one), flow_tells(Flow(flow)))

    def test_errors_of_a_call(self):
        one = Flow(F)
        beats, box, outside = ((1, 1), (0,)), (2, 3), ((0, (-1, 0), 1),)
        rng = random.Random(94)
        bad_beats = [v for v in list(ODD) + damaged(rng, beats, 60) if beats_error(F, v)]
        bad_boxes = [v for v in list(ODD) + damaged(rng, box, 60) + [(2, 0), (2, GREAT + 1), (2,), (2, 3, 1)] if box_error(2, v)]
        bad_outsides = [v for v in list(ODD) + damaged(rng, outside, 60) if first_reason(F, box, v)]

        def call(a, b, c):
            return one(a, b, c)
        for value in bad_beats:
            self.raises(BadBeats, {"error": beats_error(F, value)}, call, value, rng.choice(bad_boxes), rng.choice(bad_outsides))
            self.raises(BadBeats, {"error": beats_error(F, value)}, call, value, box, outside)
        for value in bad_boxes:
            self.raises(BadBox, {"error": box_error(2, value)}, call, beats, value, rng.choice(bad_outsides))
            self.raises(BadBox, {"error": box_error(2, value)}, call, beats, value, outside)
        for value in bad_outsides:
            self.raises(TooLarge, {"limit": 240}, call, beats, (GREAT, 1), value)
            self.raises(BadOutside, {"error": first_reason(F, box, value)}, call, beats, box, value)
        self.same(call(beats, box, outside), ((1, 1, 1, 1, 2, 3),))

    def test_sum(self):
        rng = random.Random(95)
        for at in range(40):
            one, other = some_flow(rng, 2, 1 + at % 3), some_flow(rng, 2, 1 + at // 3 % 3)
            found = Flow(one) + Flow(other)
            self.assertIs(type(found), Flow)
            self.same(found.value, joined(one, other))
            self.assertTrue(found == Flow(joined(one, other)))
        flat, deep, full = Flow(F), Flow(some_flow(rng, 3, 2)), Flow(some_flow(rng, 2, 6))
        self.raises(OtherDims, {}, lambda: flat + deep)
        self.raises(OtherDims, {}, lambda: deep + full)
        self.raises(OtherDims, {}, lambda: full + Flow(some_flow(rng, 3, 6)))
        self.raises(TooMany, {"limit": 6}, lambda: flat + full)
        self.raises(TooMany, {"limit": 6}, lambda: full + flat)
        self.same(flow_tells(flat), flow_tells(Flow(F)))
        self.assertEqual(len(flat + flat + flat + flat + flat + flat), 6)


if __name__ == "__main__":
    unittest.main()
