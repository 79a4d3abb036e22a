"""Promises 63 to 70: benches."""

import random
import unittest

from support import KINDS, ODD, Case, all_directions, damaged, divisor, dot, is_int, served, some_flow, some_vector
from test_words import reckoned

from wirebeats.arrays import array_of
from wirebeats.benches import Bench, ServedBench
from wirebeats.boxes import box_error
from wirebeats.errors import BadBatch, BadBox, BadDirection, BadFlow, BadOutside, BadRule, BadWeights, Busy, InUse, NoPlane
from wirebeats.errors import NoPoint, NoStarts, NothingToUndo, NoVersion, Rejected, TooLarge, TooMany, TooManyEdits, TooSmall
from wirebeats.flows import flow_error
from wirebeats.places import canonical_rows
from wirebeats.starts import find_starts
from wirebeats.words import outside_error, words_of

F = (2, (("add", (0, (1, 0)), (0, (0, 1))),))
G = (2, (("copy", (1, (0, 0))), ("neg", (0, (1, 0)))))
FULL = (2, tuple(("copy", (k, (1, k % 4))) for k in range(6)))
NEG = ("neg", (0, (1, 0)))


def is_vector(dims, value, most):
    return type(value) is tuple and len(value) == dims and all(is_int(item) and abs(item) <= most for item in value)


def rule_word(dims, planes, rule):
    """What is wrong with a rule whose reads may be of so many planes."""
    if type(rule) is not tuple or not rule or type(rule[0]) is not str or KINDS.get(rule[0]) != len(rule) - 1:
        return "rule"
    for read in rule[1:]:
        if type(read) is not tuple or len(read) != 2:
            return "read"
        if not is_int(read[0]) or read[0] not in range(planes):
            return "source"
        if not is_vector(dims, read[1], 4):
            return "distance"
    return None


def behind(state, edit):
    """The state behind an edit, and the error that it raises, if any, with its fields."""
    (dims, rules), weights, direction = state
    name, *told = edit
    if name == "put":
        word = rule_word(dims, len(rules) + 1, told[0])
        if word:
            return None, (BadRule, {"word": word})
        if len(rules) == 6:
            return None, (TooMany, {"limit": 6})
        return ((dims, rules + (told[0],)), weights, direction), None
    if name == "drop":
        readers = [k for k, rule in enumerate(rules[:-1]) if len(rules) - 1 in [read[0] for read in rule[1:]]]
        if len(rules) == 1:
            return None, (TooSmall, {})
        if readers:
            return None, (InUse, {"plane": readers[0]})
        return ((dims, rules[:-1]), weights, direction), None
    if name == "change":
        if not is_int(told[0]) or told[0] not in range(len(rules)):
            return None, (NoPlane, {"plane": told[0]})
        word = rule_word(dims, len(rules), told[1])
        if word:
            return None, (BadRule, {"word": word})
        return ((dims, rules[:told[0]] + (told[1],) + rules[told[0] + 1:]), weights, direction), None
    if name == "weigh":
        right = is_vector(dims, told[0], 60)
        return (((dims, rules), told[0], direction), None) if right else (None, (BadWeights, {"vector": told[0]}))
    right = is_vector(dims, told[0], 4) and divisor(told[0]) == 1
    return (((dims, rules), weights, told[0]), None) if right else (None, (BadDirection, {"direction": told[0]}))


def call(bench, edit):
    return getattr(bench, edit[0])(*edit[1:])


class Model:
    """What a bench must tell, kept in plain lists."""

    def __init__(self, kept, *state):
        self.bench = kept(*state)
        self.served = kept is ServedBench
        self.states = [state]
        self.done = []

    def ending(self, edit):
        state, error = behind(self.states[-1], edit)
        if len(self.done) == 60:
            state, error = None, (TooManyEdits, {})
        if error is None and self.served:
            word, ring = find_starts(state[0], state[1])
            if word == "ring":
                error = (NoStarts, {"ring": ring})
        return state, error

    def do(self, case, edit):
        state, error = self.ending(edit)
        if error:
            before = tells(self.bench)
            case.raises(error[0], error[1], lambda *told: getattr(self.bench, edit[0])(*told), *edit[1:])
            case.same(tells(self.bench), before)
            return error[0]
        self.keep(edit, state)
        case.same(call(self.bench, edit), len(self.done))
        return None

    def keep(self, edit, state):
        self.states.append(state)
        self.done.append(tuple(edit))

    def undo(self, case):
        if not self.done:
            case.raises(NothingToUndo, {}, lambda: self.bench.undo())
            return
        self.states.pop()
        self.done.pop()
        case.same(self.bench.undo(), len(self.done))

    def check(self, case):
        """Everything that the bench tells of the present and of each version."""
        bench = self.bench
        case.same(bench.edits(), tuple(self.done))
        case.same(list(bench.each_version()), self.states)
        case.same(now(bench), self.states[-1])
        for version in {0, len(self.done) // 2, len(self.done)}:
            case.same((bench.flow_at(version=version), bench.weights_at(version=version), bench.direction_at(version=version)),
                      self.states[version])
        flow, weights, direction = self.states[-1]
        every = abs(dot(weights, direction))
        word, told = found = find_starts(flow, weights)
        case.same((bench.starts_at(), bool(bench), bench.period, len(bench)), (found, word == "starts", every, len(flow[1])))
        reads = sum(len(rule) - 1 for rule in flow[1])
        case.same(str(bench), f"{len(flow[1])} planes, {reads} reads, period {every}, {len(self.done)} edits")
        expected = found if word == "ring" else ("still", None)
        if word == "starts" and every:
            expected = ("array", array_of(flow, (weights, told), direction, canonical_rows(direction)))
        case.same(bench.array_at(), expected)


def now(bench):
    return (bench.flow_at(), bench.weights_at(), bench.direction_at())


def tells(bench):
    return (now(bench), bench.edits(), list(bench.each_version()), str(bench), len(bench), bench.period, bool(bench))


def some_rule(rng, dims, planes):
    kind = rng.choice(sorted(KINDS))
    return (kind, *[(rng.randrange(planes), some_vector(rng, dims, 2)) for _ in range(KINDS[kind])])


def some_edit(rng, flow):
    """An edit that is right, or nearly so."""
    dims, rules = flow
    name = rng.choice(("put", "put", "drop", "change", "change", "weigh", "aim"))
    if name == "put":
        return (name, some_rule(rng, dims, len(rules) + 1))
    if name == "drop":
        return (name,)
    if name == "change":
        return (name, rng.randrange(len(rules)), some_rule(rng, dims, len(rules)))
    return (name, some_vector(rng, dims, 20) if name == "weigh" else rng.choice(all_directions(dims, 2)))


def some_model(rng, kept, at):
    dims = 2 + at % 2
    flow, (weights, _) = served(rng, dims, 1 + at % 3)
    while kept is ServedBench and find_starts(flow, weights)[0] == "ring":
        flow, (weights, _) = served(rng, dims, 1 + at % 3)
    return Model(kept, flow, weights, rng.choice(all_directions(dims, 2)))


class Making(Case):
    def test_right_values(self):
        rng = random.Random(191)
        for at in range(60):
            for kept in (Bench, ServedBench):
                model = some_model(rng, kept, at)
                self.assertIs(type(model.bench), kept)
                model.check(self)
                self.assertEqual((kept.LIMIT, model.bench.LIMIT), (60, 60))

    def test_values_of_all_kinds_in_order(self):
        rng = random.Random(192)
        flows = [v for v in list(ODD) + damaged(rng, G, 120) if flow_error(v)]
        weights = [v for v in list(ODD) + damaged(rng, (2, 1), 80) + [(61, 0), (0, -61), (1, 1, 1)] if not is_vector(2, v, 60)]
        aims = [v for v in list(ODD) + damaged(rng, (0, 1), 80) + [(0, 0), (2, 2), (5, 1), (1, 0, 0)]
                if not (is_vector(2, v, 4) and divisor(v) == 1)]
        for kept in (Bench, ServedBench):
            for value in flows:
                error = {"error": flow_error(value)}
                self.raises(BadFlow, error, kept, value, (2, 1), (0, 1))
                self.raises(BadFlow, error, kept, value, rng.choice(weights), rng.choice(aims))
            for value in weights:
                self.raises(BadWeights, {"vector": value}, kept, G, value, (0, 1))
                self.raises(BadWeights, {"vector": value}, kept, G, value, rng.choice(aims))
            for value in aims:
                self.raises(BadDirection, {"direction": value}, kept, G, (2, 1), value)
                self.raises(BadDirection, {"direction": value}, kept, G, (1, 5), value)
        self.assertGreater(min(len(flows), len(weights), len(aims)), 80)


class Edits(Case):
    def test_drawn_edits(self):
        rng = random.Random(193)
        ends = {}
        for at in range(60):
            model = some_model(rng, rng.choice((Bench, ServedBench)), at)
            for _ in range(30):
                if rng.random() < 0.25:
                    model.undo(self)
                else:
                    edit = some_edit(rng, model.states[-1][0])
                    if rng.random() < 0.15 and len(edit) > 1:
                        edit = edit[:-1] + (rng.choice(damaged(rng, edit[-1], 3)),)
                    end = model.do(self, edit)
                    ends[end] = ends.get(end, 0) + 1
            model.check(self)
            while model.done:
                model.undo(self)
            model.check(self)
            model.undo(self)
        for end in (None, BadRule, TooMany, TooSmall, InUse, BadWeights, BadDirection, NoStarts):
            self.assertGreater(ends.get(end, 0), 3, end)

    def test_wrong_values(self):
        rng = random.Random(194)
        for flow in (F, G, FULL):
            model = Model(Bench, flow, (2, 1), (0, 1))
            wrong = 0
            for value in list(ODD) + damaged(rng, NEG, 60) + damaged(rng, F[1][0], 60):
                for edit in (("put", value), ("change", 0, value), ("change", value, NEG), ("change", value, None), ("weigh", value),
                             ("aim", value)):
                    if model.do(self, edit) is None:
                        model.undo(self)
                    else:
                        wrong += 1
            self.assertGreater(wrong, 1000)
            self.assertEqual(model.done, [])
            model.check(self)

    def test_reads_of_the_new_plane(self):
        model = Model(Bench, F, (1, 1), (0, 1))
        for rule, end in ((("neg", (1, (1, 0))), None), (("add", (2, (1, 0)), (0, (0, 1))), None), (("neg", (4, (1, 0))), BadRule),
                          (("copy", (3, (0, 0))), None)):
            self.assertEqual(model.do(self, ("put", rule)), end)
        self.assertEqual(model.do(self, ("change", 0, ("neg", (4, (1, 0))))), BadRule)
        self.assertEqual(model.do(self, ("change", 0, ("neg", (3, (1, 0))))), None)
        self.assertEqual(model.do(self, ("drop",)), InUse)
        model.check(self)

    def test_six_planes_and_one(self):
        model = Model(Bench, FULL, (2, 1), (0, 1))
        self.assertEqual(model.do(self, ("put", ("neg", (6, (0, 0))))), TooMany)
        self.assertEqual(model.do(self, ("put", ("neg", (7, (0, 0))))), BadRule)
        self.raises(BadRule, {"word": "source"}, lambda: model.bench.put(("neg", (7, (0, 0)))))
        for planes in range(6, 1, -1):
            self.assertEqual(model.do(self, ("drop",)), None)
            self.assertEqual(len(model.bench), planes - 1)
        self.assertEqual(model.do(self, ("drop",)), TooSmall)
        model.check(self)

    def test_plane_in_use(self):
        rules = (("copy", (0, (1, 0))), ("neg", (3, (1, 0))), ("add", (3, (1, 1)), (3, (0, 1))), ("copy", (3, (1, 0))))
        bench = Bench((2, rules), (1, 1), (0, 1))
        self.raises(InUse, {"plane": 1}, lambda: bench.drop())
        bench.change(1, NEG)
        self.raises(InUse, {"plane": 2}, lambda: bench.drop())
        bench.change(2, NEG)
        self.same(bench.drop(), 3)

    def test_many_edits(self):
        model = Model(Bench, F, (1, 1), (0, 1))
        for at in range(60):
            self.assertIsNone(model.do(self, ("weigh", (at, 1))))
        model.check(self)
        for edit in (("weigh", (1, 1)), ("weigh", None), ("put", None), ("drop",), ("change", None, None), ("aim", 0)):
            self.raises(TooManyEdits, {}, lambda: call(model.bench, edit))
        self.raises(Rejected, {"index": 0}, lambda: model.bench.attempt([("weigh", (1, 1))]))
        self.same(model.bench.attempt([]), 60)
        model.undo(self)
        self.raises(Rejected, {"index": 1}, lambda: model.bench.attempt([("weigh", (1, 1)), ("weigh", (1, 2))]))
        model.check(self)
        self.assertIsNone(model.do(self, ("aim", (1, 0))))
        for _ in range(60):
            model.undo(self)
        model.undo(self)
        model.check(self)

    def test_values_are_kept_as_they_were(self):
        weights, rule = [1, 2], ["neg", (0, (1, 0))]
        bench = Bench(F, (1, 1), (0, 1))
        self.raises(BadWeights, {"vector": weights}, bench.weigh, weights)
        self.raises(BadRule, {"word": "rule"}, bench.put, rule)
        bench.put(NEG)
        taken = bench.edits()
        bench.undo()
        self.same(taken, (("put", NEG),))
        self.same(bench.edits(), ())


class Versions(Case):
    def test_each_version(self):
        rng = random.Random(195)
        for at in range(20):
            model = some_model(rng, Bench, at)
            for _ in range(8):
                model.do(self, some_edit(rng, model.states[-1][0]))
            bench, last = model.bench, len(model.done)
            for start in range(last + 1):
                self.same(list(bench.each_version(start=start)), model.states[start:])
                flow, weights, direction = model.states[start]
                self.same(bench.starts_at(version=start), find_starts(flow, weights))
                kept = Bench(flow, weights, direction)
                self.same(bench.array_at(version=start), kept.array_at())
                self.same((bench.flow_at(version=start), bench.weights_at(version=start), bench.direction_at(version=start)),
                          model.states[start])
            for version in ODD + (last + 1, -1, "0"):
                if version is not None and not (is_int(version) and 0 <= version <= last):
                    for name in ("flow_at", "weights_at", "direction_at", "starts_at", "array_at"):
                        self.raises(NoVersion, {"version": version}, lambda told: getattr(bench, name)(version=told), version)
                if not (is_int(version) and 0 <= version <= last):
                    self.raises(NoVersion, {"version": version}, lambda told: list(bench.each_version(start=told)), version)
            model.check(self)

    def test_arrays(self):
        bench = Bench(G, (2, 0), (0, 1))
        self.same((bench.starts_at(), bench.array_at()), (("starts", (1, 0)), ("still", None)))
        bench.weigh((1, 5))
        self.same(bench.array_at(), ("ring", ((0, 0), (1, 0))))
        bench.aim((-4, 1))
        self.same((bench.array_at()[0], bench.period), ("ring", 1))
        bench.weigh((2, 1))
        self.same(bench.array_at(), ("array", array_of(G, ((2, 1), (1, 0)), (-4, 1), ((1, 4),))))
        self.same([bench.array_at(version=version)[0] for version in range(4)], ["still", "ring", "ring", "array"])

    def test_by_turns(self):
        bench = Bench(F, (1, 1), (0, 1))
        bench.weigh((2, 1))
        bench.aim((1, 0))
        one, other = bench.each_version(), bench.each_version(start=1)
        told = [next(one), next(other), next(one), next(other), next(one)]
        self.same(told, [(F, (1, 1), (0, 1)), (F, (2, 1), (0, 1)), (F, (2, 1), (0, 1)), (F, (2, 1), (1, 0)), (F, (2, 1), (1, 0))])
        self.assertIsNone(next(one, None))


class Attempts(Case):
    def test_drawn_batches(self):
        rng = random.Random(196)
        ends = {"done": 0, "rejected": 0}
        for at in range(150):
            model = some_model(rng, rng.choice((Bench, ServedBench)), at)
            model.do(self, some_edit(rng, model.states[-1][0]))
            batch, failing = [], None
            states, done = list(model.states), list(model.done)
            for index in range(rng.choice((0, 1, 2, 5, 20))):
                edit = some_edit(rng, model.states[-1][0])
                state, error = model.ending(edit)
                if error and rng.random() < 0.5:
                    continue
                batch.append(edit)
                if error:
                    failing = failing if failing is not None else len(batch) - 1
                if failing is None:
                    model.keep(edit, state)
            seen = []

            def on_step(bench):
                seen.append((bench is model.bench, tells(bench), now(bench.copy())))
            told = rng.choice((list, tuple))(batch)
            if failing is None:
                ends["done"] += 1
                self.same(model.bench.attempt(told, on_step=on_step), len(model.done))
                model.check(self)
                self.assertEqual(len(seen), len(batch))
                for at_step, (same, (state, edits, _, _, _, _, _), copied) in enumerate(seen):
                    version = len(done) + at_step + 1
                    self.same((same, state, edits, copied), (True, model.states[version], tuple(model.done[:version]), state))
                for _ in batch:
                    model.undo(self)
                model.check(self)
            else:
                ends["rejected"] += 1
                model.states, model.done = states, done
                self.raises(Rejected, {"index": failing}, lambda: model.bench.attempt(told))
                model.check(self)
            self.same(told, type(told)(batch))
        self.assertGreater(min(ends.values()), 15)

    def test_forms_of_batches(self):
        good = ("weigh", (1, 2))
        model = Model(Bench, F, (1, 1), (0, 1))
        for batch in ODD + ([good] * 21, (good,) * 21, {"a": good}, "weigh", [("put",)], [("put", NEG, 1)], [("drop", 0)], [("undo",)],
                            [("change", 0)], [("weigh",)], [("aim",)], [["weigh", (1, 2)]], [good, None], [good, ()], [good, ("",)],
                            [("Weigh", (1, 2))], [(["weigh"], (1, 2))], [({}, 1)], [("attempt", ())], [(None, 1)], [(0,)], good):
            if batch in ((), []):
                self.same(model.bench.attempt(batch), 0)
                continue
            self.raises(BadBatch, {}, lambda told: model.bench.attempt(told), batch)
            self.raises(BadBatch, {}, lambda told: model.bench.attempt(told, on_step=self.fail), batch)
        model.check(self)
        for many in (0, 1, 20):
            self.same(model.bench.attempt([good] * many), many)
            while model.bench.edits():
                model.bench.undo()
        for item in ODD:
            for edit in (("put", item), ("change", item, NEG), ("change", 0, item), ("weigh", item), ("aim", item)):
                error = behind(model.states[-1], edit)[1]
                if error:
                    self.raises(Rejected, {"index": 1}, lambda: model.bench.attempt([good, edit, None][:2]))
        model.check(self)

    def test_errors_of_on_step(self):
        class Own(Exception):
            pass
        for raised in (NoPoint(3), Busy(), Rejected(7), TooManyEdits(), ValueError("x"), KeyError(1), Own(), KeyboardInterrupt(),
                       StopIteration(), ZeroDivisionError()):
            for last in (1, 2, 3):
                model = Model(Bench, F, (1, 1), (0, 1))
                model.do(self, ("put", NEG))
                seen = []

                def on_step(bench):
                    seen.append(len(bench.edits()))
                    if len(seen) == last:
                        raise raised
                with self.assertRaises(raised.__class__) as caught:
                    model.bench.attempt([("weigh", (2, 3)), ("drop",), ("aim", (1, 0))], on_step=on_step)
                self.assertIs(caught.exception, raised)
                self.same(seen, [2, 3, 4][:last])
                model.check(self)
                self.assertIsNone(model.do(self, ("weigh", (5, 5))))
                self.same(model.bench.attempt([("drop",)]), 3)

    def test_busy(self):
        for kept in (Bench, ServedBench):
            model = Model(kept, F, (1, 1), (0, 1))
            copies = []

            def on_step(bench):
                before = tells(bench)
                for act in (lambda: bench.put(None), lambda: bench.drop(), lambda: bench.change(None, None), lambda: bench.weigh(0),
                            lambda: bench.aim(0), lambda: bench.undo(), lambda: bench.attempt(None), lambda: bench.put(NEG),
                            lambda: bench.attempt([]), lambda: bench.weigh((1, 1))):
                    self.raises(Busy, {}, act)
                self.same(tells(bench), before)
                other = bench.copy()
                self.assertIs(type(other), kept)
                self.same(other.edits(), bench.edits())
                self.same(other.undo(), len(bench.edits()) - 1)
                self.same(other.attempt([("weigh", (9, 9))], on_step=lambda told: None), len(bench.edits()))
                self.same(tells(bench), before)
                copies.append(other)
            self.same(model.bench.attempt([("weigh", (2, 2)), ("put", NEG), ("aim", (1, 0))], on_step=on_step), 3)
            self.assertEqual(len(copies), 3)
            self.same(model.bench.undo(), 2)
            self.same([other.weights_at() for other in copies], [(9, 9)] * 3)

            def busy(bench):
                bench.put(NEG)
            self.raises(Busy, {}, lambda: model.bench.attempt([("drop",)], on_step=busy))
            self.same(model.bench.drop(), 3)

    def test_busy_at_many_edits(self):
        bench = Bench(F, (1, 1), (0, 1))
        for _ in range(59):
            bench.weigh((1, 1))

        def on_step(told):
            self.raises(Busy, {}, lambda: told.weigh((1, 1)))
        self.same(bench.attempt([("aim", (1, 0))], on_step=on_step), 60)

    def test_batch_that_is_changed_meanwhile(self):
        batch = [("weigh", (2, 3)), ("aim", (1, 0)), ("put", NEG)]
        bench = Bench(F, (1, 1), (0, 1))

        def on_step(told):
            batch[:] = [None] if len(batch) == 3 else batch * 2
        self.same(bench.attempt(batch, on_step=on_step), 3)
        self.same(bench.edits(), (("weigh", (2, 3)), ("aim", (1, 0)), ("put", NEG)))

    def test_results_of_on_step_have_no_effect(self):
        for result in (False, True, None, 0, ("drop",), []):
            bench = Bench(F, (1, 1), (0, 1))
            self.same(bench.attempt((("put", NEG), ("drop",)), on_step=lambda told: result), 2)
            self.same(bench.undo(), 1)
            self.same(bench.flow_at(), (2, F[1] + (NEG,)))


class Queries(Case):
    def test_words(self):
        rng = random.Random(197)
        for at in range(60):
            model = some_model(rng, ServedBench, at)
            flow, weights, _ = model.states[-1]
            box = (3, 2, 2)[:flow[0]]
            outside = ((0, (-1,) * flow[0], 5), (0, box, 7))
            self.same(model.bench(box, outside), reckoned(flow, box, outside))
            self.same(model.bench(box, outside), words_of(flow, (weights, find_starts(flow, weights)[1]), box, outside))
            self.same(model.bench(box, ()), reckoned(flow, box, ()))

    def test_errors_of_a_call(self):
        rng = random.Random(198)
        box, outside = (2, 3), ((0, (-1, 0), 1),)
        boxes = [v for v in list(ODD) + damaged(rng, box, 80) if box_error(2, v)]
        outsides = [v for v in list(ODD) + damaged(rng, outside, 80) if outside_error(F, box, v)]
        served_bench, barred = Bench(F, (1, 1), (0, 1)), Bench(F, (1, 0), (0, 1))
        ring = {"ring": barred.starts_at()[1]}
        for value in boxes:
            self.raises(NoStarts, ring, lambda told: barred(told, None), value)
            self.raises(BadBox, {"error": box_error(2, value)}, lambda told: served_bench(told, outside), value)
            self.raises(BadBox, {"error": box_error(2, value)}, lambda told: served_bench(told, rng.choice(outsides)), value)
        for value in outsides:
            self.raises(NoStarts, ring, lambda told: barred(box, told), value)
            self.raises(TooLarge, {"limit": 240}, lambda told: served_bench((241, 1), told), value)
            self.raises(BadOutside, {"error": outside_error(F, box, value)}, lambda told: served_bench(box, told), value)
        self.same(served_bench(box, outside), ((1, 1, 1, 1, 2, 3),))
        self.raises(NoStarts, ring, lambda: barred(box, outside))

    def test_rules(self):
        rng = random.Random(199)
        bench = Bench(G, (2, 0), (0, 1))
        for plane in ODD + (-1, 2, slice(0, 1)):
            if is_int(plane) and plane in (0, 1):
                self.same(bench[plane], G[1][plane])
            else:
                self.raises(NoPlane, {"plane": plane}, lambda told: bench[told], plane)
        for rule in G[1]:
            self.assertTrue(rule in bench)
            for value in damaged(rng, rule, 100):
                self.assertIs(value in bench, any(repr(value) == repr(other) for other in G[1]))
        for value in ODD + (G, G[1], list(G[1][0]), ("neg", (False, (1, 0))), ("neg", (0, (True, 0))), ("neg", (0, (1, False))),
                            ("copy", (True, (0, 0))), bench):
            self.assertFalse(value in bench)
        bench.change(1, ("neg", (1, (1, 0))))
        self.assertFalse(G[1][1] in bench)
        self.assertTrue(("neg", (1, (1, 0))) in bench)
        self.same(bench[1], ("neg", (1, (1, 0))))
        with self.assertRaises(TypeError):
            iter(bench)
        with self.assertRaises(TypeError):
            list(bench)

    def test_period_behind_each_edit(self):
        bench = Bench(F, (1, 2), (0, 1))
        periods = [bench.period]
        for edit in (lambda: bench.put(NEG), lambda: bench.weigh((3, -7)), lambda: bench.change(0, NEG), lambda: bench.aim((1, -1)),
                     lambda: bench.drop(), lambda: bench.weigh((2, 2))):
            edit()
            periods.append(bench.period)
        self.same(periods, [2, 2, 7, 7, 10, 10, 0])
        for every in periods[-2::-1]:
            bench.undo()
            self.same((bench.period, bench.copy().period), (every, every))
        seen = []
        bench.attempt([("weigh", (5, 6)), ("aim", (-1, 1)), ("put", NEG)], on_step=lambda told: seen.append(told.period))
        self.same((seen, bench.period), ([6, 1, 1], 1))

    def test_period_and_text(self):
        bench = Bench(F, (1, 2), (0, 1))
        self.same((bench.period, str(bench)), (2, "1 planes, 2 reads, period 2, 0 edits"))
        bench.weigh((-60, 59))
        bench.aim((4, -3))
        bench.put(NEG)
        self.same((bench.period, str(bench), len(bench), bool(bench)), (417, "2 planes, 3 reads, period 417, 3 edits", 2, False))
        with self.assertRaises(AttributeError):
            bench.period = 3

    def test_equality(self):
        one, other = Bench(F, (1, 1), (0, 1)), Bench(F, (1, 2), (0, 1))
        self.assertFalse(one == other)
        other.weigh((1, 1))
        self.assertTrue(one == other and not one != other)
        self.assertTrue(one == ServedBench(F, (1, 1), (0, 1)) and ServedBench(F, (1, 1), (0, 1)) == one)
        for act in (lambda told: told.weigh((2, 1)), lambda told: told.aim((1, 0)), lambda told: told.put(NEG)):
            act(one)
            self.assertTrue(one != other)
            one.undo()
            self.assertTrue(one == other)
        for value in ODD + (F, (F, (1, 1), (0, 1)), str(one)):
            self.assertFalse(one == value)
            self.assertTrue(one != value)

    def test_copies(self):
        rng = random.Random(200)
        for at in range(30):
            model = some_model(rng, rng.choice((Bench, ServedBench)), at)
            for _ in range(6):
                model.do(self, some_edit(rng, model.states[-1][0]))
            before = tells(model.bench)
            other = model.bench.copy()
            self.assertIs(type(other), type(model.bench))
            self.assertTrue(other == model.bench)
            self.same(tells(other), before)
            while other.edits():
                other.undo()
            self.same(now(other), model.states[0])
            self.same(tells(model.bench), before)
            self.same(tells(other.copy()), tells(other))
            other.attempt([("weigh", other.weights_at())])
            model.undo(self)
            model.check(self)
            self.same(other.edits(), (("weigh", model.states[0][1]),))


class Served(Case):
    def test_no_starts_at_last(self):
        ring = {"ring": ((0, 1),)}
        self.raises(NoStarts, {"ring": find_starts(F, (1, 0))[1]}, ServedBench, F, (1, 0), (0, 1))
        self.raises(BadDirection, {"direction": (0, 2)}, ServedBench, F, (1, 0), (0, 2))
        model = Model(ServedBench, F, (1, 1), (0, 1))
        for edit in (("weigh", (1, 0)), ("change", 0, ("add", (0, (1, 0)), (0, (0, 0)))), ("put", ("neg", (1, (0, 0))))):
            self.assertEqual(model.do(self, edit), NoStarts)
            self.raises(Rejected, {"index": 1}, lambda: model.bench.attempt([("aim", (1, 0)), edit]))
            self.raises(Rejected, {"index": 0}, lambda: model.bench.attempt((edit, ("weigh", (1, 1)))))
            model.check(self)
        self.raises(NoStarts, ring, lambda: model.bench.weigh((1, 0)))
        for edit, end in ((("weigh", (1, 61)), BadWeights), (("put", ("neg", (2, (0, 0)))), BadRule), (("aim", (0, 0)), BadDirection),
                          (("change", 1, NEG), NoPlane), (("drop",), TooSmall), (("aim", (3, 1)), None), (("weigh", (3, 2)), None)):
            self.assertEqual(model.do(self, edit), end)
        model.check(self)
        for _ in range(58):
            self.assertIsNone(model.do(self, ("weigh", (1, 1))))
        self.raises(TooManyEdits, {}, lambda: model.bench.weigh((1, 0)))
        full = Model(ServedBench, FULL, (2, 1), (0, 1))
        self.assertEqual(full.do(self, ("put", ("neg", (6, (0, 0))))), TooMany)

    def test_starts(self):
        rng = random.Random(201)
        for at in range(60):
            model = some_model(rng, ServedBench, at)
            for _ in range(6):
                model.do(self, some_edit(rng, model.states[-1][0]))
                flow, weights, _ = model.states[-1]
                self.same(("starts", model.bench.starts), find_starts(flow, weights))
                self.assertTrue(bool(model.bench))
            if model.done:
                model.undo(self)
                flow, weights, _ = model.states[-1]
                self.same(("starts", model.bench.starts), find_starts(flow, weights))
        with self.assertRaises(AttributeError):
            model.bench.starts = ()

    def test_undo_leads_back_to_starts(self):
        bench = ServedBench(G, (2, 0), (0, 1))
        self.same(bench.starts, (1, 0))
        bench.change(0, ("copy", (0, (1, 0))))
        bench.weigh((1, 0))
        self.same(bench.starts, (0, 0))
        self.raises(NoStarts, {"ring": ((0, 0),)}, lambda: bench.weigh((0, 1)))
        self.same((bench.undo(), bench.starts), (1, (0, 0)))
        self.same((bench.undo(), bench.starts), (0, (1, 0)))
        self.raises(NothingToUndo, {}, lambda: bench.undo())


class Helpers(Case):
    def test_flows_of_the_tests(self):
        rng = random.Random(202)
        for at in range(20):
            self.assertIsNone(flow_error(some_flow(rng, 2, 1 + at % 6)))
        self.assertIsNone(flow_error(FULL))


if __name__ == "__main__":
    unittest.main()
