"""Promises 1 to 3 over the whole program: what one module tells agrees with what the others tell."""

import random
import unittest

from support import KINDS, Case, all_directions, dot, is_int, served, some_flow, some_rows, some_vector
from test_words import BOXES, points, reckoned, some_outside

from wirebeats.alike import Array, change_holds, find_change, moved
from wirebeats.arrays import array_error, array_of, flow_holds, gains, parts, read_back
from wirebeats.beats import beat_of, beats_error, delays_of
from wirebeats.benches import Bench, ServedBench
from wirebeats.borders import count_outside, from_outside
from wirebeats.chains import find_ranks, longest_chain
from wirebeats.clashes import find_clash
from wirebeats.clusters import box_meeting, find_free, is_tight, tight_sides, worker
from wirebeats.counts import count_lines, count_long, fewest_lines, longest_line
from wirebeats.directions import period
from wirebeats.errors import Looped, NoStarts, TooLarge, WireError
from wirebeats.flows import needed, reads_of
from wirebeats.flowtexts import beats_text, flow_text, parse_flow
from wirebeats.hops import relayed, relayed_beats, relayed_outside
from wirebeats.jobs import gap_serves, meeting
from wirebeats.lineobjects import Lines
from wirebeats.lines import each_line, line_at, line_through
from wirebeats.places import canonical_rows, change_of, place_of
from wirebeats.remainders import next_beat, remainders, works_at
from wirebeats.runs import feeds_of, field_of, go_on, run, state_at
from wirebeats.shells import Shell
from wirebeats.slowing import find_factor, find_ratio
from wirebeats.spans import span_of
from wirebeats.starts import find_starts, starts_hold
from wirebeats.strips import blocks_of, find_order, find_plan, kept_words, plan_holds, strip_words
from wirebeats.timings import Beats
from wirebeats.waiting import find_waiting, waiting_of
from wirebeats.ways import need_of, rings_of
from wirebeats.words import Flow, each_word, words_of


def slow_flow(rng, dims, planes):
    """A flow whose reads of later planes have greater gains by weights above 0, so that no ring has gains of 0."""
    rules = []
    for plane in range(planes):
        kind = rng.choice(sorted(KINDS))
        sources = [rng.randrange(planes) for _ in range(KINDS[kind])]
        reads = [(source, some_unit(rng, dims) if source >= plane else (0,) * dims) for source in sources]
        rules.append((kind, *reads))
    return (dims, tuple(rules))


def some_unit(rng, dims):
    at = rng.randrange(dims)
    return tuple(int(axis == at) for axis in range(dims))


def some_weighted(seed, many):
    """Flows with weights, of which some have starts, some have none, and some have some if they are slowed."""
    rng = random.Random(seed)
    for at in range(many):
        dims, planes = 2 + at % 2, 1 + at // 4 % 6
        if at % 4 == 0:
            yield rng, some_flow(rng, dims, planes, 2), some_vector(rng, dims, rng.choice((1, 3, 60)))
        elif at % 4 == 1:
            yield rng, slow_flow(rng, dims, planes), tuple(rng.choice((1, 1, 2, 40)) for _ in range(dims))
        else:
            flow, (weights, _) = served(rng, dims, planes)
            yield rng, flow, weights if at % 4 == 2 else tuple(rng.choice((1, 3)) * item // rng.choice((1, 2, 5)) for item in weights)


def worked(flow, weights, direction):
    """Beats with the least starts, canonical place rows, and the array of them."""
    beats = (weights, find_starts(flow, weights)[1])
    rows = canonical_rows(direction)
    return beats, rows, array_of(flow, beats, direction, rows)


def some_arrays(seed, many):
    rng = random.Random(seed)
    while many:
        many -= 1
        flow, (weights, _) = served(rng, 2 + many % 2, 1 + many % 6)
        direction = rng.choice([other for other in all_directions(flow[0], 2) if dot(weights, other)])
        yield (rng, flow, direction) + worked(flow, weights, direction)


def outcome(function, *args):
    try:
        return function(*args)
    except WireError as error:
        return error


class Serving(Case):
    def test_starts_and_factors(self):
        seen = {}
        for _, flow, weights in some_weighted(501, 700):
            word, told = find_starts(flow, weights)
            factor = outcome(find_factor, flow, weights)
            if word == "starts":
                self.same(factor, ("factor", 1, told, None))
            elif isinstance(factor, TooLarge):
                self.assertGreater(find_ratio(flow, weights)[1], 0)
            elif factor[0] == "never":
                self.assertTrue(starts_hold(flow, tuple(0 for _ in weights), ("ring", factor[1])))
                self.assertTrue(starts_hold(flow, weights, ("ring", factor[1])))
            else:
                _, number, starts, ring = factor
                for other in range(1, number):
                    slowed = tuple(other * item for item in weights)
                    self.assertEqual(find_starts(flow, slowed)[0], "ring")
                    self.assertTrue(starts_hold(flow, slowed, ("ring", ring)))
                self.same(find_starts(flow, tuple(number * item for item in weights)), ("starts", starts))
            kind = word if isinstance(factor, TooLarge) or word == "starts" else factor[0]
            seen[kind] = seen.get(kind, 0) + 1
        self.assertGreater(min(seen.get(kind, 0) for kind in ("starts", "never", "factor")), 20, seen)

    def test_starts_and_ratios(self):
        seen = {}
        for _, flow, weights in some_weighted(502, 400):
            word, _ = find_starts(flow, weights)
            ratio = find_ratio(flow, weights)
            factor = outcome(find_factor, flow, weights)
            if ratio[0] == "never":
                self.assertEqual((word, factor[0]), ("ring", "never"))
            else:
                _, length, ring_gains, ring, _ = ratio
                self.assertEqual(word == "starts", length <= ring_gains)
                least = -(-length // ring_gains)
                if max(map(abs, weights)) * least > 60:
                    self.assertIsInstance(factor, TooLarge)
                else:
                    self.assertEqual(factor[1], least)
                self.assertEqual((len(ring) - need_of(flow, weights, ring)) * length, len(ring) * ring_gains)
            self.assertEqual(word == "ring", any(need_of(flow, weights, ring) > 0 for ring in rings_of(flow)))
            seen[ratio[0], word] = seen.get((ratio[0], word), 0) + 1
        self.assertGreater(min(seen.get(kind, 0) for kind in (("never", "ring"), ("ratio", "ring"), ("ratio", "starts"))), 20, seen)

    def test_starts_told_by_all(self):
        for rng, flow, weights in some_weighted(503, 200):
            word, told = find_starts(flow, weights)
            direction = rng.choice(all_directions(flow[0], 2))
            bench = Bench(flow, weights, direction)
            self.same((bench.starts_at(), bool(bench)), ((word, told), word == "starts"))
            if word == "ring":
                for call in (lambda: Beats.least(flow, weights), lambda: find_waiting(flow, weights), lambda: bench((1,) * flow[0], ()),
                             lambda: ServedBench(flow, weights, direction)):
                    self.raises(NoStarts, {"ring": told}, call)
                self.assertEqual((bench.array_at(), Shell(bench)("array")), (("ring", told), "ring"))
                continue
            self.same((Beats.least(flow, weights).value, ServedBench(flow, weights, direction).starts), ((weights, told), told))
            waiting, starts, _ = find_waiting(flow, weights)
            self.assertIsNone(beats_error(flow, (weights, starts)))
            self.assertEqual(waiting, waiting_of(flow, (weights, starts)))
            self.assertLessEqual(waiting, waiting_of(flow, (weights, told)))
            self.assertEqual(waiting_of(flow, (weights, told)), sum(map(sum, delays_of(flow, (weights, told)))))
            later = Beats(flow, (weights, starts)) + (max(told) - min(starts))
            self.assertEqual((later & Beats(flow, (weights, told))).starts, told)

    def test_boxes_have_as_many_beats_as_their_longest_chain(self):
        looped = 0
        for rng, flow, weights in some_weighted(504, 600):
            box = rng.choice(BOXES[flow[0]])
            ranks = find_ranks(flow, box)
            word, told = find_starts(flow, weights)
            if ranks[0] == "loop":
                looped += 1
                self.assertEqual(word, "ring")
                self.raises(Looped, {"loop": ranks[1]}, longest_chain, flow, box)
                continue
            chain = longest_chain(flow, box)
            self.assertEqual(len(chain), 1 + max(map(max, ranks[1])))
            if word == "starts":
                for starts in (told, find_waiting(flow, weights)[1]):
                    self.assertGreaterEqual(span_of(flow, (weights, starts), box)[2], len(chain))
                beats = [beat_of(flow, (weights, told), plane, point) for plane, point in chain]
                self.assertEqual(beats, sorted(set(beats)))
                self.assertEqual(Shell(Bench(flow, weights, (1,) + (0,) * (flow[0] - 1)))(f"beats {','.join(map(str, box))}"),
                                 str(span_of(flow, (weights, told), box)[2]))
        self.assertGreater(looped, 10)


def some_other_beats(rng, flow, weights):
    """Beats of the flow with other starts and with other weights."""
    least = Beats.least(flow, weights)
    found = [least, least + rng.randint(-50, 50), Beats(flow, (weights, find_waiting(flow, weights)[1]))]
    for factor in (2, 3):
        if max(map(abs, weights)) * factor <= 60:
            found.append(least * factor)
    for _ in range(20):
        other = some_vector(rng, flow[0], 20)
        if find_starts(flow, other)[0] == "starts":
            found.append(Beats.least(flow, other))
    return [one.value for one in found]


class SameWords(Case):
    def test_all_beats(self):
        for rng, flow, direction, beats, _, _ in some_arrays(511, 80):
            box = rng.choice(BOXES[flow[0]])
            outside = some_outside(rng, flow, box)
            expected = reckoned(flow, box, outside)
            for other in some_other_beats(rng, flow, beats[0]):
                self.same(words_of(flow, other, box, outside), expected)
                told = list(each_word(flow, other, box, outside))
                self.assertEqual(told, sorted(told))
                self.same(tuple(tuple(word for _, plane, point, word in sorted(told, key=lambda item: item[2]) if plane == wanted)
                                for wanted in range(len(flow[1]))), expected)
                self.same(Flow(flow)(other, box, outside), expected)
            self.same(Bench(flow, beats[0], direction)(box, outside), expected)

    def test_strips(self):
        planned = 0
        for rng, flow, direction, beats, rows, _ in some_arrays(512, 150):
            box = rng.choice(BOXES[flow[0]])
            outside = some_outside(rng, flow, box)
            sides = tuple(rng.choice((1, 2, 3, 720)) for _ in rows)
            word, blocks = find_plan(flow, rows, sides, box)
            if word == "plan":
                planned += 1
                expected = reckoned(flow, box, outside)
                for other in some_other_beats(rng, flow, beats[0]):
                    self.same(strip_words(flow, other, rows, sides, box, outside, blocks), expected)
                self.assertEqual(len(kept_words(flow, rows, sides, box, blocks)), len(blocks) - 1)
        self.assertGreater(planned, 60)

    def test_arrays(self):
        for rng, flow, direction, _, canonical, _ in some_arrays(513, 120):
            weights = next(value for value in [some_vector(rng, flow[0], 20) for _ in range(200)] + [None]
                           if value is None or dot(value, direction) and find_starts(flow, value)[0] == "starts")
            if weights is None:
                continue
            box = rng.choice(BOXES[flow[0]])
            outside = some_outside(rng, flow, box)
            rows = some_rows(rng, canonical)
            beats = (weights, rng.choice((find_starts, lambda *told: find_waiting(*told)[:2]))(flow, weights)[1])
            self.check_array(flow, beats, direction, rows, box, outside)

    def check_array(self, flow, beats, direction, rows, box, outside):
        array = array_of(flow, beats, direction, rows)
        field, feeds = field_of(box, beats[0], direction, rows), feeds_of(outside, beats, rows)
        trace = run(array, field, feeds)
        words = words_of(flow, beats, box, outside)
        expected = sorted((beat_of(flow, beats, plane, point), place_of(rows, point), plane, words[plane][index])
                          for index, point in enumerate(points(box)) for plane in range(len(flow[1])))
        self.same(trace, tuple(expected))
        self.same(Array(array)(field, feeds), trace)
        middle = trace[len(trace) // 2][0]
        self.same(go_on(array, field, feeds, state_at(array, field, feeds, middle), middle), tuple(told for told in trace if told[0] > middle))

    def test_relayed_flows(self):
        done = 0
        for rng, flow, direction, beats, rows, _ in some_arrays(514, 300):
            plane, operand, source, distance = rng.choice(reads_of(flow))
            many = rng.randint(2, 3)
            if len(flow[1]) + many - 1 > 6:
                continue
            parted = [rng.randint(min(0, item), max(0, item)) for item in distance]
            hops = (tuple(parted), tuple(item - part for item, part in zip(distance, parted))) + ((0,) * flow[0],) * (many - 2)
            box = rng.choice(BOXES[flow[0]])
            outside = some_outside(rng, flow, box)[:400]
            other = relayed(flow, plane, operand, hops)
            told = relayed_outside(flow, box, outside, plane, operand, hops)
            self.same(reckoned(other, box, told)[:len(flow[1])], words_of(flow, beats, box, outside))
            kept = outcome(relayed_beats, flow, beats, plane, operand, hops)
            if not isinstance(kept, WireError):
                done += 1
                self.assertIsNone(beats_error(other, kept))
                self.same(words_of(other, kept, box, told)[:len(flow[1])], words_of(flow, beats, box, outside))
                self.check_array(other, kept, direction, rows, box, told)
            self.same(tuple(k for k in needed(other, plane) if k < len(flow[1])), needed(flow, plane))
        self.assertGreater(done, 20)


class Geometry(Case):
    def test_lines_and_lines(self):
        for rng, flow, direction, beats, rows, _ in some_arrays(521, 100):
            box = rng.choice(BOXES[flow[0]])
            found = list(each_line(box, direction))
            self.assertEqual(len(found), count_lines(box, direction))
            self.assertEqual(max(many for _, many in found), longest_line(box, direction))
            self.assertEqual(count_long(box, direction, 2), sum(many > 1 for _, many in found))
            self.same([line_at(box, direction, index) for index in range(len(found))], found)
            self.assertEqual(len(field_of(box, beats[0], direction, rows)), len(found))
            self.assertEqual(Shell(Bench(flow, beats[0], direction))(f"processors {','.join(map(str, box))}"), str(len(found)))
            self.assertEqual(Lines(direction) // box, len(found))
            fewest = fewest_lines(box, beats[0], 2)
            self.assertLessEqual(fewest[0], len(found))
            self.assertGreater(period(beats[0], fewest[1]), 0)
            outside = {}
            for first, many in found:
                for plane, _, source, distance in reads_of(flow):
                    for index, count in from_outside(box, direction, first, distance):
                        for step in range(index, index + count):
                            vector = tuple(item + step * u - d for item, u, d in zip(first, direction, distance))
                            outside[source, vector] = True
            for plane in range(len(flow[1])):
                self.assertEqual(count_outside(flow, box, plane), sum(source == plane for source, _ in outside))

    def test_clashes_and_meetings(self):
        seen = {}
        rng = random.Random(522)
        for at in range(200):
            dims = 2 + at % 2
            box = rng.choice(BOXES[dims])
            direction = rng.choice(all_directions(dims, 2))
            weights = some_vector(rng, dims, rng.choice((1, 5)))
            word = find_clash(box, weights, direction)[0]
            seen[word] = seen.get(word, 0) + 1
            rows = some_rows(rng, canonical_rows(direction))
            if period(weights, direction) == 0:
                many = [line_through(box, direction, point)[1] for point in points(box)]
                self.assertEqual(word, "clash" if max(many) > 1 else "side")
                continue
            self.assertEqual(word, "period")
            self.assertIsNone(box_meeting(weights, rows, (1,) * len(rows), box))
            job = ((0,) * dims, box, 0)
            for gap in range(1, 8):
                other = (job[0], box, gap)
                self.assertEqual(gap_serves(weights, direction, box, gap, 2), meeting(weights, direction, job, other) is None)
            self.assertTrue(gap_serves(weights, direction, box, longest_line(box, direction) * period(weights, direction), None))
            cycle, rests = period(weights, direction), remainders(weights, direction, rows)
            sides = tuple(rng.randint(1, 4) for _ in rows)
            if find_free(cycle, rests, sides)[0] == "free":
                self.assertIsNone(box_meeting(weights, rows, sides, box))
        self.assertGreater(min(seen.get(kind, 0) for kind in ("clash", "side", "period")), 5, seen)

    def test_workers_and_places(self):
        for rng, flow, direction, beats, rows, array in some_arrays(524, 100):
            cycle, rests = array[0], array[1]
            if cycle > 60:
                continue
            for sides in tight_sides(cycle, rests):
                self.assertTrue(is_tight(cycle, rests, sides))
                block = tuple(rng.randint(-5, 5) for _ in rows)
                for beat in range(cycle):
                    place = worker(cycle, rests, sides, 0, block, beat)
                    self.assertIsNotNone(works_at(beats[0], direction, rows, place, beat))
                    self.assertEqual(next_beat(beats[0], direction, rows, place, beat), beat)

    def test_orders_are_plans(self):
        ordered = 0
        for rng, flow, direction, beats, rows, array in some_arrays(525, 200):
            steps = tuple(sorted({tap[1] for rule in array[3] for tap in rule[1:]}))[:18]
            if len(steps) < len({tap[1] for rule in array[3] for tap in rule[1:]}) or max(abs(item) for step in steps for item in step) > 1000:
                continue
            sides = tuple(rng.choice((1, 2, 4)) for _ in rows)
            word, told = find_order(steps, sides)
            box = rng.choice(BOXES[flow[0]])
            if word == "order":
                ordered += 1
                blocks = tuple(sorted(blocks_of(rows, sides, box), key=lambda block: dot(block, told)))
                self.assertTrue(plan_holds(flow, rows, sides, box, ("plan", blocks)))
                self.assertEqual(find_plan(flow, rows, sides, box)[0], "plan")
        self.assertGreater(ordered, 20)


class ThereAndBack(Case):
    def test_arrays_and_flows(self):
        for rng, flow, direction, beats, rows, array in some_arrays(531, 120):
            self.assertIsNone(array_error(array))
            self.same(read_back(array, rows, beats[0]), flow)
            self.assertTrue(flow_holds(array, rows, beats[0], flow))
            taps = [rule[1:] for rule in flow[1]]
            self.same(gains(array), tuple(tuple(dot(beats[0], distance) for _, distance in reads) for reads in taps))

    def test_other_rows_and_starts_give_one_array(self):
        changed = 0
        for rng, flow, direction, beats, rows, array in some_arrays(532, 200):
            if parts(array) != 1:
                continue
            changed += 1
            other_rows = some_rows(rng, rows)
            number = rng.randint(-30, 30)
            other = array_of(flow, (Beats(flow, beats) + number).value, direction, other_rows)
            word, matrix, lags = find_change(array, other)
            self.same((word, matrix, lags), ("change", change_of(rows, other_rows), (number,) * len(flow[1])))
            self.same(moved(array, matrix, lags), other)
            self.assertTrue(change_holds(array, other, (word, matrix, lags)))
            self.assertTrue((Array(array) // matrix) >> lags == Array(other))
        self.assertGreater(changed, 30)

    def test_texts(self):
        for rng, flow, direction, beats, _, array in some_arrays(533, 100):
            self.same(parse_flow(flow_text(flow)), flow)
            bench = Bench(flow, beats[0], direction)
            shell = Shell(bench)
            self.same(parse_flow(shell("flow")), flow)
            self.same(str(Beats.least(flow, beats[0])), beats_text(beats))
            self.assertEqual(f"{shell('weights')} {shell('starts')}", beats_text(beats))
            self.assertEqual(shell("array").split(" ")[0], str(array[0]))
            self.same(bench.array_at(), ("array", array))
            one = Flow(flow)
            self.assertTrue(one == Flow.of(*[flow[0], *flow[1]]) and str(one) == shell("flow"))

    def test_equal_objects_answer_alike(self):
        for rng, flow, direction, beats, rows, array in some_arrays(534, 60):
            box = rng.choice(BOXES[flow[0]])
            outside = some_outside(rng, flow, box)
            one, other = Flow(flow), Flow(parse_flow(str(Flow(flow))))
            self.assertTrue(one == other)
            self.same((one.value, one.reads, str(one), len(one), one(beats, box, outside)),
                      (other.value, other.reads, str(other), len(other), other(beats, box, outside)))
            least, same = Beats.least(flow, beats[0]), (Beats(flow, beats) + 5) - 5
            self.assertTrue(least == same)
            self.same((least.value, least.delays, str(least)), (same.value, same.delays, str(same)))
            made, told = Array.of(flow, beats, direction, rows), Array(array)
            self.assertTrue(made == told)
            self.same((made.value, made.period, made.width, made.parts, str(made)), (told.value, told.period, told.width, told.parts, str(told)))
            first, second = Bench(flow, beats[0], direction), Bench(flow, beats[0], direction)
            second.attempt([("aim", direction), ("weigh", beats[0]), ("weigh", (0,) * flow[0])])
            while second.edits():
                second.undo()
            self.assertTrue(first == second and first == ServedBench(flow, beats[0], direction))
            self.same((first.array_at(), first(box, outside), str(first)), (second.array_at(), second(box, outside), str(second)))


class PlainResults(Case):
    def check(self, value):
        """Tuples, integers, strings, bools and None, nothing else."""
        if isinstance(value, tuple):
            for item in value:
                self.check(item)
        else:
            self.assertTrue(value is None or is_int(value) or isinstance(value, (str, bool)), value)

    def test_kinds_of_results(self):
        for rng, flow, direction, beats, rows, array in some_arrays(541, 40):
            box = rng.choice(BOXES[flow[0]])
            sides = (2,) * len(rows)
            outside = some_outside(rng, flow, box)
            field, feeds = field_of(box, beats[0], direction, rows), feeds_of(outside, beats, rows)
            bench = Bench(flow, beats[0], direction)
            for value in (find_starts(flow, beats[0]), outcome(find_factor, flow, beats[0]), find_ratio(flow, beats[0]), rings_of(flow),
                          find_waiting(flow, beats[0]), find_ranks(flow, box), longest_chain(flow, box), array, parts(array), rows,
                          find_plan(flow, rows, sides, box), blocks_of(rows, sides, box), span_of(flow, beats, box), field, feeds,
                          run(array, field, feeds), state_at(array, field, feeds, 0), find_clash(box, beats[0], direction), bench.starts_at(),
                          bench.array_at(), bench.edits(), tuple(bench.each_version()), bench(box, outside), Shell.fed(bench, "flow").transcript()):
                if not isinstance(value, TooLarge):
                    self.check(value)


if __name__ == "__main__":
    unittest.main()
