"""Promises 74, 75 and 76: errors, limits, names and arguments."""

import ast
import importlib
import inspect
import pathlib
import unittest

from support import ODD

from wirebeats import bounds, errors

FIELDS = {
    "BadArray": "error", "BadBatch": "", "BadBeats": "error", "BadBlocks": "blocks", "BadBox": "error",
    "BadDirection": "direction", "BadFlow": "error", "BadHops": "error", "BadLags": "lags", "BadMatrix": "matrix",
    "BadOutside": "error", "BadRule": "word", "BadText": "index", "BadWeights": "vector", "Busy": "", "Flat": "",
    "InUse": "plane", "Late": "plane operand", "Looped": "loop", "NoCount": "many", "NoIndex": "index",
    "NoMeeting": "vector", "NoNumber": "number", "NoOperand": "operand", "NoPlace": "place", "NoPlane": "plane",
    "NoPoint": "point", "NoStarts": "ring", "NotFree": "", "NotYet": "plane point", "NothingToUndo": "",
    "NoVersion": "version", "OtherDims": "", "OtherFlow": "", "OtherWeights": "", "OutOfReach": "plane operand",
    "Parted": "number", "Rejected": "index", "Same": "", "TooLarge": "limit", "TooMany": "limit",
    "TooManyEdits": "", "TooShort": "delay", "TooSmall": "", "Unfit": "", "Unlike": "",
}

LIMITS = {
    "BATCH": 20, "HISTORY": 30, "MAX_CYCLE": 720, "MAX_DELAY": 1000000, "MAX_DIST": 4, "MAX_ENTRIES": 1000,
    "MAX_JOBS": 20, "MAX_PERIOD": 1000000, "MAX_PLANES": 6, "MAX_POINTS": 240, "MAX_ROW": 1000000, "MAX_SIDE": 720,
    "MAX_SIZE": 1000000000, "MAX_START": 10000, "MAX_STEP": 1000000, "MAX_STEPS": 18, "MAX_STRIDE": 1000,
    "MAX_WEIGHT": 60, "MODULUS": 65521,
}

INTERFACE = {
    "alike": ["moved(array, matrix, lags)", "find_change(one, other)", "change_holds(one, other, value)"],
    "arrays": ["array_error(value)", "is_array(value)", "array_of(flow, beats, direction, rows)", "gains(array)",
               "parts(array)", "read_back(array, rows, weights)", "flow_holds(array, rows, weights, value)"],
    "beats": ["beats_error(flow, value)", "delays_of(flow, timing)", "beat_of(flow, timing, plane, point)"],
    "borders": ["from_outside(box, direction, point, distance)", "count_outside(flow, box, plane)"],
    "boxes": ["box_error(dims, value)", "points_of(box)", "point_index(box, point)", "point_at(box, index)"],
    "chains": ["find_ranks(flow, box)", "ranks_hold(flow, box, value)", "longest_chain(flow, box)"],
    "clashes": ["find_clash(box, weights, direction)", "clash_holds(box, weights, direction, value)"],
    "clusters": ["find_free(cycle, remainders, sides)", "free_holds(cycle, remainders, sides, value)",
                 "is_tight(cycle, remainders, sides)", "tight_sides(cycle, remainders)",
                 "greatest_sides(cycle, remainders)", "worker(cycle, remainders, sides, start, block, beat)",
                 "meeting_points(weights, rows, sides, vector)", "box_meeting(weights, rows, sides, box)"],
    "counts": ["count_lines(box, direction)", "longest_line(box, direction)", "count_long(box, direction, many)",
               "fewest_lines(box, weights, most)", "count_at(box, weights, beat)"],
    "directions": ["is_direction(dims, value)", "directions(dims, most)", "period(weights, direction)",
                   "between(point, other)"],
    "flows": ["flow_error(value)", "is_flow(value)", "reads_of(flow)", "readers_of(flow, plane)",
              "needed(flow, *planes)", "joined(flow, *flows)"],
    "flowtexts": ["vector_text(vector)", "numbers_text(numbers)", "rule_text(rule)", "flow_text(flow)",
                  "parse_flow(value)", "beats_text(beats)"],
    "hops": ["hops_error(distance, value)", "relayed(flow, plane, operand, hops)",
             "relayed_beats(flow, beats, plane, operand, hops)",
             "relayed_outside(flow, box, outside, plane, operand, hops)"],
    "jobs": ["meeting(weights, direction, one, other)", "meeting_holds(weights, direction, one, other, value)",
             "gap_serves(weights, direction, box, gap, many)", "next_gap(weights, direction, box, number)",
             "free_begin(weights, direction, corner, box, jobs, begin)"],
    "lines": ["line_through(box, direction, point)", "steps_between(direction, point, other)",
              "line_index(box, direction, point)", "line_at(box, direction, index)", "each_line(box, direction)"],
    "places": ["canonical_rows(direction)", "rows_certificate(direction, matrix)",
               "rows_certificate_holds(direction, matrix, value)", "place_of(rows, point)",
               "first_at(box, direction, rows, place)", "change_of(rows, other)"],
    "remainders": ["remainders(weights, direction, rows)", "works_at(weights, direction, rows, place, beat)",
                   "next_beat(weights, direction, rows, place, beat)"],
    "runs": ["field_of(box, weights, direction, rows)", "feeds_of(outside, beats, rows)", "run(array, field, feeds)",
             "state_at(array, field, feeds, beat)", "go_on(array, field, feeds, state, beat)"],
    "slowing": ["find_factor(flow, weights)", "factor_holds(flow, weights, value)", "find_ratio(flow, weights)",
                "ratio_holds(flow, weights, value)"],
    "spans": ["span_of(flow, timing, box, *planes)"],
    "starts": ["find_starts(flow, weights)", "starts_hold(flow, weights, value)"],
    "strips": ["moves_of(steps, sides)", "find_order(steps, sides)", "order_holds(steps, sides, value)",
               "blocks_of(rows, sides, box)", "find_plan(flow, rows, sides, box)",
               "plan_holds(flow, rows, sides, box, value)",
               "strip_words(flow, beats, rows, sides, box, outside, blocks)",
               "kept_words(flow, rows, sides, box, blocks)"],
    "waiting": ["waiting_of(flow, timing)", "find_waiting(flow, weights)", "waiting_holds(flow, weights, value)"],
    "ways": ["is_way(flow, value)", "is_ring(flow, value)", "need_of(flow, weights, way)", "way_to(flow, plane, other)",
             "rings_of(flow)"],
    "words": ["outside_error(flow, box, value)", "each_word(flow, beats, box, outside)",
              "words_of(flow, beats, box, outside)", "word_at(flow, beats, box, outside, plane, point)"],
}

# For each class its file, its methods as they are called, and its properties.
CLASSES = {
    "Flow": ("words", ["Flow(value)", "of(dims, *rules)"], []),
    "Array": ("alike", ["Array(value)", "of(flow, beats, direction, rows)"], ["period"]),
    "Lines": ("lineobjects", ["Lines(direction)", "through(point, other)"], ["along", "rows"]),
    "Beats": ("timings", ["Beats(flow, value)", "least(flow, weights)"], ["starts"]),
    "Shell": ("shells", ["Shell(bench)", "fed(bench, *values)", "execute(value)", "transcript()"], ["last"]),
    "Bench": ("benches", ["Bench(flow, weights, direction)", "put(rule)", "drop()", "change(plane, rule)", "weigh(weights)",
                          "aim(direction)", "undo()", "edits()", "flow_at(*, version=None)", "weights_at(*, version=None)",
                          "direction_at(*, version=None)", "starts_at(*, version=None)", "array_at(*, version=None)",
                          "attempt(batch, *, on_step=None)", "each_version(*, start=0)", "copy()"], ["period"]),
    "ServedBench": ("benches", ["ServedBench(flow, weights, direction)"], ["starts"]),
}


class Errors(unittest.TestCase):
    def test_all_are_there(self):
        own = {name for name, value in vars(errors).items() if isinstance(value, type)}
        self.assertEqual(own, set(FIELDS) | {"WireError"})
        self.assertEqual(errors.WireError.__bases__, (ValueError,))

    def test_each_is_a_direct_subclass(self):
        for name in FIELDS:
            self.assertEqual(getattr(errors, name).__bases__, (errors.WireError,), name)

    def test_fields_keep_the_very_objects(self):
        for name, fields in FIELDS.items():
            names = fields.split()
            for at in range(len(ODD)):
                values = [ODD[(at + k) % len(ODD)] for k in range(len(names))]
                error = getattr(errors, name)(*values)
                self.assertEqual(list(error.__dict__), names)
                for field, value in zip(names, values):
                    self.assertIs(getattr(error, field), value)

    def test_fields_by_name_and_number(self):
        for name, fields in FIELDS.items():
            names = fields.split()
            if names:
                error = getattr(errors, name)(**{field: at for at, field in enumerate(names)})
                self.assertEqual(error.__dict__, {field: at for at, field in enumerate(names)})
                self.assertRaises(TypeError, getattr(errors, name))
                self.assertRaises(TypeError, getattr(errors, name), *range(len(names) + 1))

    def test_messages_are_names(self):
        for name, fields in FIELDS.items():
            self.assertEqual(str(getattr(errors, name)(*range(len(fields.split())))), name)

    def test_shown_as_in_the_document(self):
        self.assertEqual(repr(errors.NoPlane(9)), "NoPlane(9)")
        self.assertEqual(repr(errors.Late(1, 2)), "Late(1, 2)")
        self.assertEqual(repr(errors.Flat()), "Flat()")


class Limits(unittest.TestCase):
    def test_values(self):
        own = {name: value for name, value in vars(bounds).items() if not name.startswith("_")}
        self.assertEqual(own, LIMITS)
        self.assertTrue(all(type(value) is int for value in own.values()))


class Interface(unittest.TestCase):
    def test_names_and_arguments(self):
        for module, functions in INTERFACE.items():
            found = importlib.import_module(f"wirebeats.{module}")
            tree = ast.parse(pathlib.Path(found.__file__).read_text())
            defined = {node.name for node in tree.body if isinstance(node, ast.FunctionDef)}
            for written in functions:
                name = written.partition("(")[0]
                self.assertIn(name, defined)
                self.assertEqual(name + str(inspect.signature(getattr(found, name))), written)

    def test_classes(self):
        for name, (module, methods, properties) in CLASSES.items():
            found = importlib.import_module(f"wirebeats.{module}")
            kept = getattr(found, name)
            self.assertEqual(kept.__module__, found.__name__)
            for written in methods:
                method = written.partition("(")[0]
                if method == name:
                    self.assertIn("__init__", vars(kept))
                    self.assertEqual(name + str(inspect.signature(kept)), written)
                    continue
                self.assertIn(method, vars(kept))
                told = vars(kept)[method]
                bound = getattr(kept, method) if isinstance(told, classmethod) else told.__get__(object())
                self.assertEqual(method + str(inspect.signature(bound)), written)
            for told in properties:
                self.assertIsInstance(vars(kept)[told], property)
                self.assertIsNone(vars(kept)[told].fset)

    def test_bases(self):
        benches = importlib.import_module("wirebeats.benches")
        self.assertEqual(benches.ServedBench.__bases__, (benches.Bench,))
        self.assertEqual((benches.Bench.LIMIT, benches.ServedBench.LIMIT), (60, 60))


if __name__ == "__main__":
    unittest.main()
