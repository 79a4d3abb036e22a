"""Promises 74, 75 and 76: errors, limits, names and arguments."""

import ast
import importlib
import inspect
import pathlib
import unittest

from support import ODD

from wirebeats import bounds, errors

FIELDS = {
    "BadArray": "error", "BadBatch": "", "BadBeats": "error", "BadBlocks": "blocks", "BadBox": "error",
    "BadDirection": "direction", "BadFlow": "error", "BadHops": "error", "BadLags": "lags", "BadMatrix": "matrix",
    "BadOutside": "error", "BadRule": "word", "BadText": "index", "BadWeights": "vector", "Busy": "", "Flat": "",
    "InUse": "plane", "Late": "plane operand", "Looped": "loop", "NoCount": "many", "NoIndex": "index",
    "NoMeeting": "vector", "NoNumber": "number", "NoOperand": "operand", "NoPlace": "place", "NoPlane": "plane",
    "NoPoint": "point", "NoStarts": "ring", "NotFree": "", "NotYet": "plane point", "NothingToUndo": "",
    "NoVersion": "version", "OtherDims": "", "OtherFlow": "", "OtherWeights": "", "OutOfReach": "plane operand",
    "Parted": "number", "Rejected": "index", "Same": "", "TooLarge": "limit", "TooMany": "limit",
    "TooManyEdits": "", "TooShort": "delay", "TooSmall": "", "Unfit": "", "Unlike": "",
}

LIMITS = {
    "BATCH": 20, "HISTORY": 30, "MAX_CYCLE": 720, "MAX_DELAY": 1000000, "MAX_DIST": 4, "MAX_ENTRIES": 1000,
    "MAX_JOBS": 20, "MAX_PERIOD": 1000000, "MAX_PLANES": 6, "MAX_POINTS": 240, "MAX_ROW": 1000000, "MAX_SIDE": 720,
    "MAX_SIZE": 1000000000, "MAX_START": 10000, "MAX_STEP": 1000000, "MAX_STEPS": 18, "MAX_STRIDE": 1000,
    "MAX_WEIGHT": 60, "MODULUS": 65521,
}

INTERFACE = {
    "arrays": ["array_error(value)", "is_array(value)", "array_of(flow, beats, direction, rows)", "gains(array)",
               "parts(array)", "read_back(array, rows, weights)", "flow_holds(array, rows, weights, value)"],
    "beats": ["beats_error(flow, value)", "delays_of(flow, timing)", "beat_of(flow, timing, plane, point)"],
    "boxes": ["box_error(dims, value)", "points_of(box)", "point_index(box, point)", "point_at(box, index)"],
    "directions": ["is_direction(dims, value)", "directions(dims, most)", "period(weights, direction)",
                   "between(point, other)"],
    "flows": ["flow_error(value)", "is_flow(value)", "reads_of(flow)", "readers_of(flow, plane)",
              "needed(flow, *planes)", "joined(flow, *flows)"],
    "flowtexts": ["vector_text(vector)", "numbers_text(numbers)", "rule_text(rule)", "flow_text(flow)",
                  "parse_flow(value)", "beats_text(beats)"],
    "places": ["canonical_rows(direction)", "rows_certificate(direction, matrix)",
               "rows_certificate_holds(direction, matrix, value)", "place_of(rows, point)",
               "first_at(box, direction, rows, place)", "change_of(rows, other)"],
    "remainders": ["remainders(weights, direction, rows)", "works_at(weights, direction, rows, place, beat)",
                   "next_beat(weights, direction, rows, place, beat)"],
}


class Errors(unittest.TestCase):
    def test_all_are_there(self):
        own = {name for name, value in vars(errors).items() if isinstance(value, type)}
        self.assertEqual(own, set(FIELDS) | {"WireError"})
        self.assertEqual(errors.WireError.__bases__, (ValueError,))

    def test_each_is_a_direct_subclass(self):
        for name in FIELDS:
            self.assertEqual(getattr(errors, name).__bases__, (errors.WireError,), name)

    def test_fields_keep_the_very_objects(self):
        for name, fields in FIELDS.items():
            names = fields.split()
            for at in range(len(ODD)):
                values = [ODD[(at + k) % len(ODD)] for k in range(len(names))]
                error = getattr(errors, name)(*values)
                self.assertEqual(list(error.__dict__), names)
                for field, value in zip(names, values):
                    self.assertIs(getattr(error, field), value)

    def test_fields_by_name_and_number(self):
        for name, fields in FIELDS.items():
            names = fields.split()
            if names:
                error = getattr(errors, name)(**{field: at for at, field in enumerate(names)})
                self.assertEqual(error.__dict__, {field: at for at, field in enumerate(names)})
                self.assertRaises(TypeError, getattr(errors, name))
                self.assertRaises(TypeError, getattr(errors, name), *range(len(names) + 1))

    def test_shown_as_in_the_document(self):
        self.assertEqual(repr(errors.NoPlane(9)), "NoPlane(9)")
        self.assertEqual(repr(errors.Late(1, 2)), "Late(1, 2)")
        self.assertEqual(repr(errors.Flat()), "Flat()")


class Limits(unittest.TestCase):
    def test_values(self):
        own = {name: value for name, value in vars(bounds).items() if not name.startswith("_")}
        self.assertEqual(own, LIMITS)
        self.assertTrue(all(type(value) is int for value in own.values()))


class Interface(unittest.TestCase):
    def test_names_and_arguments(self):
        for module, functions in INTERFACE.items():
            found = importlib.import_module(f"wirebeats.{module}")
            tree = ast.parse(pathlib.Path(found.__file__).read_text())
            defined = {node.name for node in tree.body if isinstance(node, ast.FunctionDef)}
            for written in functions:
                name = written.partition("(")[0]
                self.assertIn(name, defined)
                self.assertEqual(name + str(inspect.signature(getattr(found, name))), written)


if __name__ == "__main__":
    unittest.main()
