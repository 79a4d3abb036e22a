"""Promises 41 to 43: fields, feeds and runs."""

import random
import unittest

from support import Case, all_directions, ask, dot, served, some_rows, some_vector
from test_arrays import made, some_array
from test_words import M, points, reckoned, some_outside

from wirebeats.arrays import array_of, is_array
from wirebeats.errors import Flat, TooLarge
from wirebeats.places import canonical_rows
from wirebeats.runs import feeds_of, field_of, go_on, run, state_at

A = (2, (1,), (0,), (("add", (0, (1,), 1), (0, (-1,), 1)),))
FIELD, FEEDS = (((-1,), 1, 1), ((0,), 0, 2), ((1,), 1, 1)), ((0, (-1,), -1, 1),)
FAR = 10 ** 30 - 1


def ascends(value):
    return type(value) is tuple and all(one < other for one, other in zip(value, value[1:]))


def some_arrays(seed, many):
    """Arrays of flows with their flow, beats, direction, rows, a box and an outside."""
    rng = random.Random(seed)
    for at in range(many):
        direction = rng.choice(all_directions(2 + at % 2, 4 if at % 4 < 2 else 1))
        dims = len(direction)
        flow, beats = served(rng, dims, 1 + at % 5, late=20)
        rows = rng.choice((canonical_rows(direction), some_rows(rng, canonical_rows(direction))))
        box = rng.choice({2: ((3, 3), (5, 4), (1, 7), (12, 3)), 3: ((2, 2, 2), (3, 1, 4), (3, 3, 2))}[dims])
        if dot(beats[0], direction) != 0:
            yield rng, flow, beats, direction, rows, box, some_outside(rng, flow, box)


def drawn(rng, width, planes):
    """An array written by hand with a field and feeds, in which many works read one another."""
    array = some_array(rng, width, planes, 1, rng.choice((1, 2, 3, 5)))
    every, rests, starts, rules = array
    field = {}
    for _ in range(rng.randint(1, 9)):
        place = some_vector(rng, width, 2)
        field[place] = (place, dot(rests, place) + every * rng.randint(-3, 3), rng.randint(1, 8))
    field = tuple(sorted(field.values()))
    feeds = {}
    for place, begin, many in field:
        for plane, start in enumerate(starts):
            for source, step, delay in rules[plane][1:]:
                key = (source, tuple(a - b for a, b in zip(place, step)), begin + start - delay + every * rng.randrange(many))
                feeds[key] = key + (rng.choice((0, 1, M - 1, rng.randrange(M))),)
            # A feed for a work of the field: the work goes ahead of it.
            key = (plane, place, begin + start + every * rng.randrange(many))
            feeds[key] = key + (rng.randrange(M),)
    return array, field, tuple(sorted(feed for feed in feeds.values() if rng.random() < 0.7))


def told(array, field, feeds):
    """The words of all works and of the feeds, by plane, place and beat, by the definition of a tap's word."""
    every, _, starts, rules = array
    works = {(plane, place, begin + start + number * every) for place, begin, many in field
             for plane, start in enumerate(starts) for number in range(many)}
    words = {}
    fed = {feed[:3]: feed[3] for feed in feeds}

    def word(key):
        if key not in works:
            return fed.get(key, 0)
        if key not in words:
            plane, place, beat = key
            kind, *taps = rules[plane]
            x = [word((q, tuple(a - b for a, b in zip(place, step)), beat - delay)) for q, step, delay in taps]
            words[key] = {"copy": x[0], "neg": -x[0] % M, "add": sum(x[:2]) % M, "sub": (x[0] - x[-1]) % M,
                          "mul": x[0] * x[-1] % M, "least": min(x), "most": max(x), "madd": (x[0] + x[len(x) // 2] * x[-1]) % M}[kind]
        return words[key]
    for key in works:
        word(key)
    return works, words, fed


def whole_trace(array, field, feeds):
    _, words, _ = told(array, field, feeds)
    return tuple(sorted((beat, place, plane, word) for (plane, place, beat), word in words.items()))


def waiting(array, field, feeds, beat):
    """What waits behind a beat, by its definition."""
    works, words, fed = told(array, field, feeds)
    found = set()
    for plane, place, at in works:
        for source, step, delay in array[3][plane][1:]:
            key = (source, tuple(a - b for a, b in zip(place, step)), at - delay)
            if at > beat >= key[2] and (key in words or key in fed):
                found.add(key + (words[key] if key in words else fed[key],))
    return tuple(sorted(found))


class Fields(Case):
    def test_fields(self):
        for _, flow, (weights, _), direction, rows, box, _ in some_arrays(121, 200):
            field = ask(field_of, box, weights, direction, rows)
            lines = {}
            for point in points(box):
                lines.setdefault(made(rows, point), []).append(dot(weights, point))
            self.same(field, tuple((place, min(beats), len(beats)) for place, beats in sorted(lines.items())))
            every = abs(dot(weights, direction))
            for place, begin, many in field:
                self.assertEqual(sorted(lines[place]), [begin + number * every for number in range(many)])

    def test_flat_then_too_large(self):
        for box in ((2, 2), (240, 1), (241, 1), (10 ** 9, 10 ** 9)):
            self.raises(Flat, {}, field_of, box, (1, -1), (1, 1), ((1, -1),))
            self.raises(Flat, {}, field_of, box, (0, 0), (1, 1), ((1, -1),))
        for box in ((241, 1), (1, 241), (16, 16), (10 ** 9, 10 ** 9)):
            self.raises(TooLarge, {"limit": 240}, field_of, box, (1, 1), (1, 1), ((1, -1),))
        self.raises(TooLarge, {"limit": 240}, field_of, (1, 1, 241), (1, 0, 0), (1, 0, 0), ((0, 1, 0), (0, 0, 1)))
        self.raises(Flat, {}, field_of, (1, 1, 241), (0, 9, 9), (1, 0, 0), ((0, 1, 0), (0, 0, 1)))

    def test_full_boxes(self):
        self.same(ask(field_of, (240, 1), (2, 3), (1, 0), ((0, 1),)), (((0,), 0, 240),))
        self.same(ask(field_of, (240, 1), (-2, 3), (1, 0), ((0, 1),)), (((0,), -478, 240),))
        self.same(ask(field_of, (1, 240), (2, 3), (1, 0), ((0, 1),)), tuple(((at,), 3 * at, 1) for at in range(240)))
        self.same(len(ask(field_of, (6, 5, 8), (1, 1, 1), (1, 1, 1), ((1, 0, -1), (0, 1, -1)))), 240 - 5 * 4 * 7)


class Feeds(Case):
    def test_one_for_each_entry(self):
        zeros = 0
        for _, flow, (weights, starts), _, rows, box, outside in some_arrays(122, 150):
            feeds = ask(feeds_of, outside, (weights, starts), rows)
            expected = [(plane, made(rows, vector), dot(weights, vector) + starts[plane], word) for plane, vector, word in outside]
            self.same(feeds, tuple(sorted(expected)))
            self.assertEqual(len({feed[:3] for feed in feeds}), len(outside))
            zeros += sum(feed[3] == 0 for feed in feeds)
        self.assertGreater(zeros, 50)
        self.same(ask(feeds_of, (), ((1, 1), (0,)), ((1, -1),)), ())
        self.same(ask(feeds_of, ((0, (-1, 0), 0),), ((1, 1), (5,)), ((1, -1),)), ((0, (-1,), 4, 0),))

    def test_far_vectors(self):
        great = 10 ** 9
        outside = ((0, (-great, 5), 1), (0, (2 * great - 1, -great), 2), (1, (0, great), 3))
        expected = tuple(sorted((plane, (vector[0] - vector[1],), 60 * vector[0] - 59 * vector[1] + (7, -9)[plane], word)
                                for plane, vector, word in outside))
        self.same(ask(feeds_of, outside, ((60, -59), (7, -9)), ((1, -1),)), expected)


class Runs(Case):
    def test_words_of_the_flow(self):
        for _, flow, beats, direction, rows, box, outside in some_arrays(123, 160):
            array = array_of(flow, beats, direction, rows)
            field, feeds = field_of(box, beats[0], direction, rows), feeds_of(outside, beats, rows)
            words = reckoned(flow, box, outside)
            expected = sorted((dot(beats[0], point) + beats[1][plane], made(rows, point), plane, word)
                              for plane, row in enumerate(words) for point, word in zip(points(box), row))
            self.same(ask(run, array, field, feeds), tuple(expected))

    def test_arrays_that_come_of_no_flow(self):
        rng = random.Random(124)
        fed = 0
        for at in range(250):
            array, field, feeds = drawn(rng, 1 + at % 2, 1 + at % 6)
            self.assertTrue(is_array(array))
            trace = whole_trace(array, field, feeds)
            self.same(ask(run, array, field, feeds), trace, array, field, feeds)
            fed += trace != whole_trace(array, field, ())
        self.assertGreater(fed, 100)

    def test_words_that_nothing_tells(self):
        self.same(ask(run, A, FIELD, ()), ((0, (0,), 0, 0), (1, (-1,), 0, 0), (1, (1,), 0, 0), (2, (0,), 0, 0)))
        self.same(ask(run, A, (), FEEDS), ())
        self.same(ask(run, A, FIELD, FEEDS), ((0, (0,), 0, 1), (1, (-1,), 0, 1), (1, (1,), 0, 1), (2, (0,), 0, 2)))

    def test_work_goes_ahead_of_a_feed(self):
        feeds = ((0, (-1,), -1, 1), (0, (0,), 0, 500))
        self.same(ask(run, A, FIELD, feeds), run(A, FIELD, FEEDS))
        # At a beat at which the place has no work the feed counts.
        late = (((0,), 4, 1), ((1,), 5, 1))
        self.same(ask(run, A, late, ((0, (0,), 4, 500), (0, (2,), 4, 7))), ((4, (0,), 0, 0), (5, (1,), 0, 7)))
        self.same(ask(run, A, late, ((0, (0,), 2, 500), (0, (0,), 6, 9))), ((4, (0,), 0, 0), (5, (1,), 0, 0)))

    def test_full_field(self):
        array = (1, (0,), (0, 3), (("add", (1, (0,), 1), (0, (1,), 1)), ("copy", (0, (0,), 3))))
        field = (((0,), 10 ** 12 - 240, 239), ((1,), -10 ** 12, 1))
        feeds = ((1, (0,), 10 ** 12 - 241, 7), (0, (0,), -10 ** 12 - 1, 9), (1, (1,), -10 ** 12 - 1, 5))
        feeds = tuple(sorted(feeds))
        trace = ask(run, array, field, feeds)
        self.same(trace, whole_trace(array, field, feeds))
        self.assertEqual(len(trace), 480)
        far = ((1, (10 ** 16,), 3, 8), (1, (-10 ** 16,), 3, 8))
        self.same(ask(run, array, (((10 ** 16,), 4, 1),), tuple(sorted(far))), ((4, (10 ** 16,), 0, 8), (7, (10 ** 16,), 1, 8)))


class States(Case):
    def beats(self, rng, array, field):
        """Beats ahead of all works, at each kind of place among them, behind them, and far ones."""
        beats = sorted({work[0] for work in run(array, field, ())})
        return [-FAR, beats[0] - 10 ** 6, beats[0] - 1, beats[0], rng.choice(beats), rng.choice(beats) + 1, beats[-1] - 1,
                beats[-1], beats[-1] + 1, FAR]

    def check(self, rng, array, field, feeds):
        trace = run(array, field, feeds)
        for beat in self.beats(rng, array, field):
            state = ask(state_at, array, field, feeds, beat)
            self.same(state, waiting(array, field, feeds, beat))
            self.assertTrue(ascends(state))
            rest = tuple(work for work in trace if work[0] > beat)
            self.same(ask(go_on, array, field, feeds, state, beat), rest)
            later = tuple(feed for feed in feeds if feed[2] > beat)
            self.same(ask(go_on, array, field, later, state, beat), rest)

    def test_states_of_drawn_arrays(self):
        rng = random.Random(125)
        for at in range(80):
            self.check(rng, *drawn(rng, 1 + at % 2, 1 + at % 4))

    def test_states_of_arrays_of_flows(self):
        for rng, flow, beats, direction, rows, box, outside in some_arrays(126, 40):
            array = array_of(flow, beats, direction, rows)
            self.check(rng, array, field_of(box, beats[0], direction, rows), feeds_of(outside, beats, rows))

    def test_words_that_are_0(self):
        zero = ((0, (-1,), -1, 0),)
        self.same(ask(state_at, A, FIELD, zero, -1), ((0, (-1,), -1, 0),))
        self.same(ask(state_at, A, FIELD, (), -1), ())
        self.same(ask(state_at, A, FIELD, (), 0), ((0, (0,), 0, 0),))
        self.same(ask(state_at, A, FIELD, FEEDS, 1), ((0, (-1,), 1, 1), (0, (1,), 1, 1)))
        self.same(ask(state_at, A, FIELD, FEEDS, 2), ())
        self.same(ask(state_at, A, FIELD, FEEDS, -2), ())

    def test_work_in_a_state_goes_ahead_of_a_feed(self):
        feeds = ((0, (-1,), -1, 1), (0, (0,), 0, 500))
        self.same(ask(state_at, A, FIELD, feeds, 0), ((0, (0,), 0, 1),))

    def test_changed_states_lead_to_other_words(self):
        rng = random.Random(127)
        changed = 0
        for at in range(80):
            array, field, feeds = drawn(rng, 1 + at % 2, 1 + at % 4)
            beat = rng.choice(run(array, field, feeds))[0]
            state = state_at(array, field, feeds, beat)
            words = [entry[:3] + (rng.randrange(M),) for entry in state if rng.random() < 0.8]
            strange = tuple(sorted(words + [(0, (9,) * len(array[1]), beat, 5)]))
            # What has been told up to this beat is just the state, so a field of the later works alone does the rest.
            _, told_words, _ = told(array, field, feeds)
            known = {entry[:3]: entry[3] for entry in strange}
            known.update((feed[:3], feed[3]) for feed in feeds if feed[2] > beat)
            expected = []
            for at_beat, plane, place in sorted((key[2], key[0], key[1]) for key in told_words if key[2] > beat):
                keys = [(q, tuple(a - b for a, b in zip(place, step)), at_beat - delay) for q, step, delay in array[3][plane][1:]]
                one = (1, (0,) * len(array[1]), (0,) * 4, tuple((array[3][plane][0], *[(k + 1, (0,) * len(array[1]), 1)
                       for k in range(len(keys))]) if k == 0 else ("copy", (k, (0,) * len(array[1]), 1)) for k in range(4)))
                fed = tuple((k + 1, (0,) * len(array[1]), -1, known.get(key, 0)) for k, key in enumerate(keys))
                word = [w for _, _, p, w in whole_trace(one, (((0,) * len(array[1]), 0, 1),), fed) if p == 0][0]
                known[plane, place, at_beat] = word
                expected.append((at_beat, place, plane, word))
            self.same(ask(go_on, array, field, feeds, strange, beat), tuple(sorted(expected)))
            changed += tuple(sorted(expected)) != tuple(work for work in run(array, field, feeds) if work[0] > beat)
        self.assertGreater(changed, 30)
        self.same(ask(go_on, A, FIELD, FEEDS, ((0, (0,), 0, 40),), 0), ((1, (-1,), 0, 40), (1, (1,), 0, 40), (2, (0,), 0, 80)))
        self.same(ask(go_on, A, FIELD, FEEDS, (), 0), ((1, (-1,), 0, 0), (1, (1,), 0, 0), (2, (0,), 0, 0)))

    def test_feeds_up_to_the_beat_do_not_count(self):
        feeds = ((0, (-2,), 0, 30), (0, (-1,), -1, 1), (0, (2,), 0, 50))
        self.same(ask(go_on, A, FIELD, feeds, (), -1), ((0, (0,), 0, 0), (1, (-1,), 0, 30), (1, (1,), 0, 50), (2, (0,), 0, 80)))
        self.same(ask(go_on, A, FIELD, feeds, (), 0), ((1, (-1,), 0, 0), (1, (1,), 0, 0), (2, (0,), 0, 0)))
        self.same(ask(go_on, A, FIELD, feeds, (), -FAR), run(A, FIELD, feeds))
        self.same(ask(go_on, A, FIELD, feeds, (), FAR), ())


if __name__ == "__main__":
    unittest.main()
