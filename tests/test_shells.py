"""Promises 71 to 73: shells."""

import random
import re
import unittest

from support import KINDS, ODD, Case, dot
from test_benches import F, FULL, G, NEG, Model, behind, now, some_edit, some_model, tells
from test_words import first_reason, points, read_outside, reckoned

from wirebeats.benches import Bench, ServedBench
from wirebeats.errors import BadBox, Busy, Rejected
from wirebeats.shells import Shell
from wirebeats.starts import starts_hold

UNKNOWN = "unknown command"
GREAT = 10 ** 9
NUMBER = "(?:0|[1-9][0-9]{0,11})"
INTEGER = "(?:0|-?[1-9][0-9]{0,11})"


def text_of(vector):
    return ",".join(map(str, vector))


def read_text(read):
    return f"{read[0]}@{text_of(read[1])}"


def rule_text(rule):
    return " ".join([rule[0], *map(read_text, rule[1:])])


def entry_text(entry):
    return f"{read_text(entry[:2])}:{entry[2]}"


def edit_text(edit):
    """The command that calls an edit."""
    if edit[0] == "put":
        return f"put {rule_text(edit[1])}"
    if edit[0] == "change":
        return f"change {edit[1]} {rule_text(edit[2])}"
    return edit[0] if edit[0] == "drop" else f"{edit[0]} {text_of(edit[1])}"


def vector_of(text):
    return tuple(map(int, text.split(",")))


def read_of(text):
    plane, distance = text.split("@")
    return (int(plane), vector_of(distance))


def rule_of(text):
    kind, *reads = text.split(" ")
    return (kind, *map(read_of, reads))


def entry_of(text):
    read, word = text.split(":")
    return (*read_of(read), int(word))


def forms(dims):
    """The names of the commands with arguments, each with the pattern of its arguments and with what reads them."""
    vector = ",".join([INTEGER] * dims)
    read = f"{NUMBER}@{vector}"
    rule = "(?:" + "|".join(" ".join([kind] + [read] * many) for kind, many in KINDS.items()) + ")"
    return {
        "put": (f"({rule})", [rule_of]), "change": (f"({NUMBER}) ({rule})", [int, rule_of]),
        "weigh": (f"({vector})", [vector_of]), "aim": (f"({vector})", [vector_of]),
        "processors": (f"({vector})", [vector_of]), "beats": (f"({vector})", [vector_of]),
        "run": (f"({vector})((?: {read}:{NUMBER})*)", [vector_of, lambda text: tuple(map(entry_of, text.split()))]),
    }


def parsed(dims, value):
    """The tuple of the name of a command and of its arguments, or None for what is no command."""
    if not isinstance(value, str):
        return None
    if value in ("drop", "undo", "flow", "weights", "direction", "starts", "array"):
        return (value,)
    name, _, rest = value.partition(" ")
    if name not in forms(dims):
        return None
    pattern, readers = forms(dims)[name]
    found = re.fullmatch(pattern, rest)
    return found and (name, *[reader(text) for reader, text in zip(readers, found.groups())])


def box_reason(box):
    for index, size in enumerate(box):
        if not 1 <= size <= GREAT:
            return (index, "size")
    return None


def many_points(box):
    many = 1
    for size in box:
        many *= max(size, 0)
    return many


class Told:
    """A shell on a bench, and a reckoning of what it must answer."""

    def __init__(self, case, model, shell=None):
        self.case = case
        self.model = model
        self.shell = shell or Shell(model.bench)
        self.pairs = []
        self.answers = {}

    def state(self):
        return self.model.states[-1]

    def ask(self, value):
        """Give a command to the shell; the bench must be as it should be behind it."""
        expected = self.expected(value)
        self.pairs.append((value if isinstance(value, str) else None, expected))
        self.case.same(self.shell(value), expected, value, self.state())
        self.case.same(now(self.model.bench), self.state())
        self.case.same(self.model.bench.edits(), tuple(self.model.done))
        self.case.same(self.shell.last, self.pairs[-1])
        self.case.same(self.shell.transcript(), tuple(self.pairs[-30:]))
        told = re.match("(?:error )?[a-zA-Z]+|", expected).group()
        self.answers[told] = self.answers.get(told, 0) + 1
        return expected

    def expected(self, value):
        """The answer that is due; the model takes the edit, if it is one."""
        command = parsed(self.state()[0][0], value)
        if command is None:
            return UNKNOWN
        if command[0] == "undo":
            return self.undone()
        if command[0] in ("put", "drop", "change", "weigh", "aim"):
            return self.edited(command)
        if command[0] in ("processors", "beats", "run"):
            return self.of_box(command[0], *command[1:])
        return self.told(command[0])

    def undone(self):
        if not self.model.done:
            return "error NothingToUndo"
        self.model.states.pop()
        self.model.done.pop()
        return f"ok {len(self.model.done)}"

    def edited(self, edit):
        state, error = self.model.ending(edit)
        if error:
            return f"error {error[0].__name__}"
        self.model.keep(edit, state)
        return f"ok {len(self.model.done)}"

    def told(self, name):
        flow, weights, direction = self.state()
        if name == "flow":
            return " / ".join([str(flow[0]), *map(rule_text, flow[1])])
        if name == "weights":
            return text_of(weights)
        if name == "direction":
            return text_of(direction)
        word, told = self.model.bench.starts_at()
        self.case.assertTrue(starts_hold(flow, weights, (word, told)))
        if name == "starts":
            if word == "starts":
                return " ".join(map(str, told))
            return " ".join(["ring"] + [f"{plane}.{operand}" for plane, operand in told])
        word, told = self.model.bench.array_at()
        return f"{told[0]} {text_of(told[1])} {text_of(told[2])}" if word == "array" else word

    def of_box(self, name, box, outside=()):
        flow, weights, direction = self.state()
        word, starts = self.model.bench.starts_at()
        if name != "processors" and word == "ring":
            return "ring"
        if box_reason(box):
            return "error BadBox"
        if name == "processors":
            inner = [max(size - abs(item), 0) for size, item in zip(box, direction)]
            return str(many_points(box) - many_points(inner))
        if name == "beats":
            reach = sum(abs(weight) * (size - 1) for weight, size in zip(weights, box))
            return str(max(starts) - min(starts) + reach + 1)
        if many_points(box) > 240:
            return "error TooLarge"
        if first_reason(flow, box, outside):
            return "error BadOutside"
        return " / ".join(" ".join(map(str, row)) for row in reckoned(flow, box, outside))


def told_of(case, flow=G, weights=(2, 0), direction=(0, 1), kept=Bench):
    return Told(case, Model(kept, flow, weights, direction))


def some_box_command(rng, flow):
    """A command for a box that is right, or nearly so."""
    name = rng.choice(("processors", "beats", "run", "run"))
    dims = flow[0]
    if name != "run":
        return f"{name} {text_of(rng.choice((1, 2, 5, GREAT, GREAT, rng.randint(1, GREAT), rng.choice((0, -1, GREAT + 1)))) for _ in range(dims))}"
    box = tuple(rng.randint(1, 4) for _ in range(dims))
    told = read_outside(flow, box)
    entries = [(*read, rng.choice((0, 1, 65520, rng.randrange(65521)))) for read in sorted(rng.sample(told, min(len(told), 4)))]
    if rng.random() < 0.3:
        entries.reverse()
    if rng.random() < 0.2:
        entries.append((0, box, rng.choice((65521, 5, 10 ** 12 - 1))))
    return " ".join(["run", text_of(box), *map(entry_text, entries)])


def some_command(rng, flow):
    if rng.random() < 0.4:
        return rng.choice(("flow", "weights", "direction", "starts", "array", "undo", "undo"))
    if rng.random() < 0.4:
        return some_box_command(rng, flow)
    edit = some_edit(rng, flow)
    if edit[0] == "put" and rng.random() < 0.2:
        edit = ("put", ("neg", (9, (0,) * flow[0])))
    if edit[0] == "aim" and rng.random() < 0.2:
        edit = ("aim", (2,) * flow[0])
    if edit[0] == "change" and rng.random() < 0.3:
        edit = ("change", rng.choice((7, len(flow[1]))), edit[2])
    if edit[0] == "weigh" and rng.random() < 0.6:
        edit = ("weigh", rng.choice(((61,) * flow[0], (0, 5, 0)[:flow[0]], (7, 0, 0)[:flow[0]])))
    return edit_text(edit)


def bent(rng, text):
    """A text with one sign other, more or less."""
    at = rng.randrange(len(text) + 1)
    sign = rng.choice(" @:,/.-+0123456789aZ\n_\t" if rng.random() < 0.7 else text or " ")
    return rng.choice((text[:at] + sign + text[at:], text[:at] + sign + text[at + 1:], text[:at] + text[at + 1:], text + " ",
                       " " + text, text.upper(), text.replace(" ", "  ", 1), text.replace(",", ", ", 1), text + "\n"))


RIGHT = {2: ("put add 1@0,1 0@0,0", "put neg 0@1,0", "change 1 neg 0@2,0", "drop", "weigh 3,-4", "aim 1,-4", "undo", "flow", "weights",
             "direction", "starts", "array", "processors 3,2", "beats 3,2", "run 2,1", "run 2,1 0@-1,0:5 1@-1,0:6", "weigh 0,0",
             "put madd 0@1,0 1@1,0 2@1,0", "aim -1,0", "change 0 copy 1@0,0"),
         3: ("put add 1@0,1,0 0@0,0,1", "weigh 3,-4,0", "aim 1,-4,0", "processors 3,2,4", "beats 3,2,1", "run 2,1,2 0@-1,0,0:5")}


class Commands(Case):
    def test_drawn_commands(self):
        rng = random.Random(401)
        answers = {}
        for at in range(60):
            told = Told(self, some_model(rng, rng.choice((Bench, ServedBench)), at))
            told.answers = answers
            for _ in range(40):
                told.ask(some_command(rng, told.state()[0]))
        for answer in ("ok", "ring", "still", "error BadRule", "error NoPlane", "error BadWeights", "error BadDirection", "error InUse",
                       "error TooSmall", "error NoStarts", "error NothingToUndo", "error BadBox", "error BadOutside"):
            self.assertGreater(answers.get(answer, 0), 3, (answer, answers))
        self.assertNotIn("unknown", answers)

    def test_drawn_commands_that_are_bent(self):
        rng = random.Random(402)
        answers = {}
        for at in range(60):
            told = Told(self, some_model(rng, rng.choice((Bench, ServedBench)), at))
            told.answers = answers
            for _ in range(50):
                told.ask(bent(rng, some_command(rng, told.state()[0])))
        self.assertGreater(answers["unknown"], 1500)
        self.assertGreater(sum(answers.values()) - answers["unknown"], 300)

    def test_each_command(self):
        told = told_of(self)
        for value, answer in (
                ("flow", "2 / copy 1@0,0 / neg 0@1,0"), ("weights", "2,0"), ("direction", "0,1"), ("starts", "1 0"), ("array", "still"),
                ("aim 1,0", "ok 1"), ("array", "2 0 1,0"), ("weigh 1,5", "ok 2"), ("starts", "ring 0.0 1.0"), ("array", "ring"),
                ("beats 3,2", "ring"), ("run 3,2", "ring"), ("processors 3,2", "2"), ("undo", "ok 1"), ("beats 3,2", "6"),
                ("processors 1000000000,1000000000", "1000000000"), ("beats 1000000000,1000000000", "2000000000"),
                ("run 2,1 0@-1,0:5", "65516 5 / 65516 5"), ("put most 2@1,0 1@0,0", "ok 2"), ("starts", "1 0 1"),
                ("run 1,2 2@-1,1:65520", "0 0 / 0 0 / 0 65520"), ("change 2 madd 0@0,0 1@0,0 2@1,0", "ok 3"), ("starts", "1 0 2"),
                ("array", "2 0 1,0,2"), ("drop", "ok 4"), ("undo", "ok 3"), ("undo", "ok 2"), ("undo", "ok 1"), ("undo", "ok 0"),
                ("undo", "error NothingToUndo"), ("flow", "2 / copy 1@0,0 / neg 0@1,0"), ("direction", "0,1")):
            self.assertEqual(told.ask(value), answer, value)
        for dims, commands in RIGHT.items():
            flow = G if dims == 2 else (3, (("copy", (1, (0, 0, 0))), ("neg", (0, (1, 0, 0)))))
            for command in commands:
                told = told_of(self, flow, (2, 0, 0)[:dims], (0, 1, 0)[:dims])
                self.assertNotEqual(told.ask(command), UNKNOWN, command)
                told.ask("weigh " + "0,1,2"[:2 * dims - 1])
                self.assertNotEqual(told.ask(command), UNKNOWN, command)

    def test_texts_of_three_dimensions(self):
        told = told_of(self, (3, (("least", (0, (1, 0, 0)), (0, (1, -4, 2))),)), (1, -2, 3), (1, -1, 1))
        for value, answer in (("flow", "3 / least 0@1,0,0 0@1,-4,2"), ("weights", "1,-2,3"), ("direction", "1,-1,1"), ("starts", "0"),
                              ("weigh -1,-2,3", "ok 1"), ("starts", "ring 0.0"), ("undo", "ok 0"), ("array", "6 1,4 0"),
                              ("processors 1000,1000,1000", "2997001"), ("processors 1,2", UNKNOWN), ("beats 2,2,2", "7"), ("aim 1,1", UNKNOWN),
                              ("put neg 0@1,0", UNKNOWN), ("weigh 1,1", UNKNOWN), ("run 2,1", UNKNOWN), ("run 2,1,1 0@-1,0:5", UNKNOWN),
                              ("run 2,1,1 0@-1,0,0:5 0@-1,4,-2:3", "3 0"), ("put copy 1@0,1,0 0@0,0,0", UNKNOWN)):
            self.assertEqual(told.ask(value), answer, value)

    def test_arrays_with_their_period(self):
        rng = random.Random(403)
        seen = {}
        for at in range(300):
            told = Told(self, some_model(rng, Bench, at))
            if rng.random() < 0.5:
                told.ask("weigh " + text_of(rng.choice((-1, 0, 0, 4)) for _ in range(told.state()[0][0])))
            answer = told.ask("array")
            flow, weights, direction = told.state()
            every = abs(dot(weights, direction))
            if answer not in ("ring", "still"):
                number, remainders, starts = answer.split(" ")
                self.assertEqual(int(number), every)
                self.assertEqual(told.ask("starts"), starts.replace(",", " "))
                self.assertTrue(all(0 <= int(item) < every for item in remainders.split(",")))
                self.assertEqual(len(remainders.split(",")), flow[0] - 1)
            self.assertEqual(answer == "ring", told.ask("starts").startswith("ring"))
            kept = answer if answer in ("ring", "still") else "array"
            seen[kept] = seen.get(kept, 0) + 1
        self.assertGreater(min(seen.get(kept, 0) for kept in ("ring", "still", "array")), 3, seen)


class Unknown(Case):
    def check(self, told, value):
        before = tells(told.model.bench)
        self.assertEqual(told.ask(value), UNKNOWN, value)
        self.same(tells(told.model.bench), before)

    def test_values_of_all_kinds(self):
        for kept in (Bench, ServedBench):
            told = told_of(self, kept=kept)
            for value in ODD + ((b"drop"), ("drop",), ["drop"], ("put", NEG), {"drop": 1}, Bench(G, (2, 0), (0, 1)), told.shell, 10 ** 39):
                self.check(told, value)

    def test_spaces_signs_and_capitals(self):
        told = told_of(self)
        for command in RIGHT[2]:
            for value in (command + " ", " " + command, command.upper(), command.capitalize(), command + "\n", "\n" + command, command + ".",
                          command + "\t", command + " x", command + ";", "/" + command, command + " 1 1", command + " 1,1,1", command[1:],
                          command + ",", command + " -", command.replace(" ", "  "), command.replace(" ", "\n"), command.replace(",", ", "),
                          command.replace(" ", " +", 1), command.replace("@", " @ "), command.replace("@", ""), command.replace("@", "@@"),
                          command.replace(":", "::"), command.replace(":", ""), command.replace(",", ""), command.replace(",", ",,"),
                          command.replace(":", ":-"), command.replace("@", "@-0"), command.replace(",", ",0"), command.replace(",", ",+")):
                if value != command and not re.fullmatch(r"\w+", value) and parsed(2, value) is None:
                    self.check(told, value)
        for value in ("", " ", "  ", "\n", "Put", "puts", "ok 1", "unknown command", "error", "None", "put", "put ", "change", "change 0",
                      "change 0 ", "weigh", "weigh ", "aim", "aim ", "run", "run ", "beats", "processors", "drop drop", "undo 1", "drop 0",
                      "flow 0", "starts 0", "array 1", "weights 1,1", "direction 0,1", "put add 0@0,0", "put add 0@0,0 0@0,0 0@0,0", "put neg",
                      "put copy 0@0,0 0@0,0", "put madd 0@0,0 0@0,0", "put mad 0@0,0", "put Neg 0@1,0", "put (0, (1, 0))", "change neg 0@1,0",
                      "change 0 0 neg 0@1,0", "change -1 neg 0@1,0", "put neg -1@1,0", "run 2,1 -1@0,-1:5", "run 2,1 0@-1,0:-5", "transcript",
                      "run 2,1 0@-1,0:5,6", "run 2,1 0@-1,0", "run 2,1 0:5", "run 2,1 5", "run 2,1 0@-1,0:5 ", "run 0@-1,0:5", "beats 2,1 0",
                      "processors 2,1 3,4", "beats 2,1 0@-1,0:5", "processors 2,1 0@-1,0:5", "weigh 1 2", "aim (0,1)", "last", "copy", "attempt", "put/neg 0@1,0", "flow\nflow", "flow;", "put neg 0@1;0"):
            self.check(told, value)
        self.check(told, "run 2,1" + " " * 9990)
        self.check(told, "x" * 10000)

    def test_numbers(self):
        told = told_of(self)
        top, beyond = "9" * 12, "1" + "0" * 12
        for form, answer in (("weigh {},0", "error BadWeights"), ("weigh 0,-{}", "error BadWeights"), ("aim {},1", "error BadDirection"),
                             ("aim -{},1", "error BadDirection"), ("processors 3,{}", "error BadBox"), ("beats {},3", "error BadBox"),
                             ("processors -{},3", "error BadBox"), ("run {},3", "error BadBox"), ("put neg {}@0,0", "error BadRule"),
                             ("change {} neg 0@0,0", "error NoPlane"), ("put neg 0@{},0", "error BadRule"), ("put neg 0@0,-{}", "error BadRule"),
                             ("run 2,1 {}@-1,0:5", "error BadOutside"), ("run 2,1 0@{},0:5", "error BadOutside"),
                             ("run 2,1 0@-{},0:5", "error BadOutside"), ("run 2,1 0@-1,0:{}", "error BadOutside")):
            self.assertEqual(told.ask(form.format(top)), answer, form)
            for wrong in (beyond, "0" + top[1:], "01", "00", "+1", "1_0", "1.0", "1e3", "", " 1", "1 ", "--1", "0x1", "1-", "one", "9" * 40, "9" * 9000):
                self.check(told, form.format(wrong))
            if "-{}" in form:
                self.check(told, form.format("0"))
        for command in ("weigh -0,1", "weigh 0,-0", "aim 0,-01", "beats 01,1", "put neg 00@1,0", "change 00 neg 0@1,0", "run 2,1 0@-1,0:05",
                        "run 2,1 0@-01,0:5", "run 2,1 00@-1,0:5", "run 2,1 0@-1,-0:5", "put neg 0@-0,1", "put neg -0@1,0", "change -0 neg 0@1,0"):
            self.check(told, command)
        self.assertEqual(told.ask("weigh -60,60"), "ok 1")
        self.assertEqual(told.ask("weigh 0,0"), "ok 2")

    def test_both_calls_answer_alike(self):
        rng = random.Random(404)
        for at in range(20):
            model = some_model(rng, Bench, at)
            one, other = Shell(model.bench.copy()), Shell(model.bench.copy())
            values = [some_command(rng, model.states[0][0]) for _ in range(20)] + [rng.choice(ODD), bent(rng, "array")]
            self.same([one(value) for value in values], [other.execute(value) for value in values])
            self.same(one.transcript(), other.transcript())


class Errors(Case):
    def test_every_error_of_an_edit(self):
        told = told_of(self, FULL, (2, 1), (0, 1))
        for value, answer in (("put neg 6@0,0", "error TooMany"), ("put neg 7@0,0", "error BadRule"), ("put neg 6@5,0", "error BadRule"),
                              ("change 6 neg 0@0,0", "error NoPlane"), ("change 6 neg 0@9,0", "error NoPlane"), ("change 5 neg 6@0,0", "error BadRule"),
                              ("change 0 neg 5@1,0", "ok 1"), ("drop", "error InUse"), ("undo", "ok 0"), ("drop", "ok 1"), ("drop", "ok 2"),
                              ("drop", "ok 3"), ("drop", "ok 4"), ("drop", "ok 5"), ("drop", "error TooSmall"), ("weigh 61,0", "error BadWeights"),
                              ("weigh 0,-61", "error BadWeights"), ("aim 0,0", "error BadDirection"), ("aim 2,4", "error BadDirection"),
                              ("aim 5,1", "error BadDirection"), ("aim -4,3", "ok 6")):
            self.assertEqual(told.ask(value), answer, value)

    def test_too_many_edits(self):
        told = told_of(self)
        for at in range(60):
            self.assertEqual(told.ask("aim 1,0"), f"ok {at + 1}")
        for value in ("aim 1,0", "put neg 9@0,0", "drop", "weigh 61,61", "change 9 neg 0@0,0", "aim 0,0"):
            self.assertEqual(told.ask(value), "error TooManyEdits")
        self.assertEqual(told.ask("aim 1"), UNKNOWN)
        self.assertEqual((told.ask("undo"), told.ask("aim 1,1"), told.ask("direction")), ("ok 59", "ok 60", "1,1"))

    def test_benches_that_are_served(self):
        told = told_of(self, kept=ServedBench)
        for value, answer in (("weigh 1,5", "error NoStarts"), ("put neg 2@0,0", "error NoStarts"), ("change 0 neg 0@0,0", "error NoStarts"),
                              ("weigh 61,5", "error BadWeights"), ("put neg 3@0,0", "error BadRule"), ("starts", "1 0"), ("weigh 7,5", "ok 1"),
                              ("starts", "1 0"), ("run 2,1", "0 0 / 0 0")):
            self.assertEqual(told.ask(value), answer, value)

    def test_boxes(self):
        for kept, flow, weights in ((Bench, G, (2, 0)), (ServedBench, G, (2, 0)), (Bench, G, (1, 5))):
            told = told_of(self, flow, weights, kept=kept)
            for box in ("0,1", "1,0", "-1,2", "1000000001,1", "1,1000000001", "0,0", "-999999999999,999999999999"):
                barred = weights == (1, 5)
                self.assertEqual(told.ask(f"processors {box}"), "error BadBox")
                self.assertEqual(told.ask(f"beats {box}"), "ring" if barred else "error BadBox")
                for entries in ("", " 0@-1,0:5", " 9@0,0:99999"):
                    self.assertEqual(told.ask(f"run {box}{entries}"), "ring" if barred else "error BadBox")
            for box, fits in (("240,1", True), ("241,1", False), ("15,16", True), ("1000000000,1000000000", False), ("1,241", False)):
                answer = told.ask(f"run {box}")
                self.assertEqual(answer, "ring" if barred else " / ".join([" ".join(["0"] * 240)] * 2) if fits else "error TooLarge")
                self.assertEqual(told.ask(f"run {box} 9@0,0:5"), "ring" if barred else "error BadOutside" if fits else "error TooLarge")

    def test_runs_with_entries(self):
        told = told_of(self, F, (1, 1), (0, 1))
        for entries, answer in (("", "0 0 0 0 0 0"), (" 0@-1,0:1", "1 1 1 1 2 3"), (" 0@-1,0:1 0@-1,1:1", "1 2 2 1 3 5"),
                                (" 0@-1,1:1 0@-1,0:1", "error BadOutside"), (" 0@-1,0:1 0@-1,0:1", "error BadOutside"),
                                (" 0@-1,0:65520 0@0,-1:2", "1 1 1 1 2 3"), (" 0@-1,0:65521", "error BadOutside"), (" 0@1,0:5", "error BadOutside"),
                                (" 1@-1,0:5", "error BadOutside"), (" 0@-1000000000,1000000002:5", "0 0 0 0 0 0"),
                                (" 0@-1000000001,0:5", "error BadOutside"), (" 0@-1,1000000003:5", "error BadOutside"), (" 0@5,5:0", "0 0 0 0 0 0")):
            self.assertEqual(told.ask(f"run 2,3{entries}"), answer, entries)
        entries = " ".join(f"0@-1,{at}:1" for at in range(1001))
        self.assertEqual(told.ask("run 1,1 " + " ".join(entries.split(" ")[:300])), "1")
        self.assertEqual(told.ask("run 1,1 " + " ".join(entries.split(" ")[:1000])), "1")
        self.assertEqual(told.ask(f"run 1,1 {entries}"), "error BadOutside")

    def test_runs_against_words(self):
        rng = random.Random(405)
        for at in range(60):
            told = Told(self, some_model(rng, ServedBench, at))
            box = (3, 2, 4)[:told.state()[0][0]]
            reads = read_outside(told.state()[0], box)
            entries = [entry_text((*read, rng.randrange(65521))) for read in reads if rng.random() < 0.7]
            answer = told.ask(" ".join(["run", text_of(box), *entries]))
            self.assertEqual([len(row.split(" ")) for row in answer.split(" / ")], [len(points(box))] * len(told.state()[0][1]))


class OneBench(Case):
    def test_commands_and_methods_by_turns(self):
        rng = random.Random(406)
        for at in range(20):
            told = Told(self, some_model(rng, rng.choice((Bench, ServedBench)), at))
            model = told.model
            for _ in range(20):
                flow = told.state()[0]
                if rng.random() < 0.5:
                    told.ask(some_command(rng, flow))
                elif rng.random() < 0.3:
                    model.undo(self)
                else:
                    model.do(self, some_edit(rng, flow))
            model.check(self)

    def test_two_shells(self):
        rng = random.Random(407)
        for at in range(15):
            one = Told(self, some_model(rng, Bench, at))
            other = Told(self, one.model)
            for _ in range(30):
                rng.choice((one, other)).ask(some_command(rng, one.state()[0]))
            self.same((one.shell.transcript(), other.shell.transcript()), (tuple(one.pairs[-30:]), tuple(other.pairs[-30:])))

    def test_the_very_bench(self):
        bench = Bench(G, (2, 0), (0, 1))
        shell, copied = Shell(bench), bench.copy()
        self.same(shell("weigh 4,4"), "ok 1")
        self.same((bench.weights_at(), copied.weights_at(), bench.edits()), ((4, 4), (2, 0), (("weigh", (4, 4)),)))
        bench.put(NEG)
        self.same(shell("flow"), "2 / copy 1@0,0 / neg 0@1,0 / neg 0@1,0")
        bench.undo()
        self.same((shell("undo"), shell("undo"), bench.weights_at()), ("ok 0", "error NothingToUndo", (2, 0)))
        self.same(bench.put(("neg", (0, (1, 0)))), 1)

    def test_while_a_batch_runs(self):
        for kept in (Bench, ServedBench):
            bench = kept(G, (2, 0), (0, 1))
            shell = Shell(bench)
            seen = []

            def on_step(told):
                before = tells(told)
                for command in ("put neg 0@1,0", "put neg 9@0,0", "drop", "change 0 neg 0@1,0", "change 9 neg 9@0,0", "weigh 2,2", "weigh 61,0",
                                "aim 1,0", "aim 0,0", "undo"):
                    self.same(shell(command), "error Busy", command)
                for command in ("put", "undo 1", "weigh 1", "aim -0,1", None):
                    self.same(shell(command), UNKNOWN, command)
                self.same(tells(told), before)
                seen.append([shell(command) for command in ("weights", "direction", "starts", "array", "processors 3,2", "beats 3,2", "run 2,1")])
                self.same(shell.last, ("run 2,1", seen[-1][-1]))
            self.same(bench.attempt([("weigh", (3, 1)), ("aim", (1, 0)), ("put", NEG)], on_step=on_step), 3)
            self.same(seen, [["3,1", "0,1", "1 0", "1 0 1,0", "3", "9", "0 0 / 0 0"], ["3,1", "1,0", "1 0", "3 1 1,0", "2", "9", "0 0 / 0 0"],
                             ["3,1", "1,0", "1 0 0", "3 1 1,0,0", "2", "9", "0 0 / 0 0 / 0 0"]])
            self.same(shell("undo"), "ok 2")
            self.raises(Rejected, {"index": 1}, lambda: bench.attempt([("aim", (1, 1)), ("aim", 0)], on_step=lambda told: shell("undo")))
            self.same(shell("direction"), "1,0")
            self.raises(Busy, {}, lambda: bench.attempt([("aim", (1, 1))], on_step=lambda told: told.undo()))
            self.same(shell("direction"), "1,0")

    def test_errors_of_calls_are_not_changed(self):
        bench = Bench(G, (2, 0), (0, 1))
        self.raises(BadBox, {"error": (0, "size")}, lambda: bench((0, 1), ()))
        self.same(Shell(bench)("run 0,1"), "error BadBox")


class Transcripts(Case):
    def test_none_some_and_many(self):
        for many in (0, 1, 29, 30, 31, 75):
            shell = Shell(Bench(G, (2, 0), (0, 1)))
            self.same((shell.transcript(), shell.last), ((), None))
            pairs = []
            for at in range(many):
                taken = shell.transcript()
                value = (f"put neg {at}@0,0", "flow", None, "no", 7, "weigh 1,1", "undo", "")[at % 8]
                answer = rng_call(at)(shell, value)
                pairs.append((value if isinstance(value, str) else None, answer))
                self.same(taken, tuple(pairs[:-1][-30:]))
                self.same(shell.last, pairs[-1])
            self.same(shell.transcript(), tuple(pairs[-30:]))
            self.assertEqual(len(shell.transcript()), min(many, 30))
            self.same(shell.transcript(), shell.transcript())

    def test_commands_as_they_were(self):
        shell = Shell(Bench(G, (2, 0), (0, 1)))
        values = ["  ", "FLOW", "", "a\nb", "x" * 10000, "flow ", "-0", "None"]
        self.same([shell(value) for value in values], [UNKNOWN] * len(values))
        self.same(shell.transcript(), tuple((value, UNKNOWN) for value in values))
        for value in ODD:
            shell(value)
            self.same(shell.last, (value if isinstance(value, str) else None, UNKNOWN))

    def test_only_readable(self):
        shell = Shell(Bench(G, (2, 0), (0, 1)))
        for value in (None, ("flow", "x")):
            with self.assertRaises(AttributeError):
                shell.last = value
        self.assertIsNone(shell.last)

    def test_fed(self):
        rng = random.Random(408)
        for many in (0, 1, 5, 30, 31, 70):
            for kept in (Bench, ServedBench):
                model = some_model(rng, kept, many)
                values = [rng.choice((some_command(rng, model.states[0][0]), rng.choice(ODD), bent(rng, "weights"))) for _ in range(many)]
                other, bench = model.bench.copy(), model.bench
                shell, by_turns = Shell.fed(bench, *values), Shell(other)
                self.assertIs(type(shell), Shell)
                answers = [by_turns(value) for value in values]
                self.same(shell.transcript(), by_turns.transcript())
                self.same([answer for _, answer in shell.transcript()], answers[-30:])
                self.same(tells(bench), tells(other))
                self.same(shell.last, by_turns.last)
                self.same(shell("direction"), text_of(bench.direction_at()))
        bench = Bench(G, (2, 0), (0, 1))
        one, two = Shell.fed(bench, "weigh 5,5", None), Shell.fed(bench, "weights")
        self.same((one.transcript(), two.last, one("undo"), two("weights")),
                  ((("weigh 5,5", "ok 1"), (None, UNKNOWN)), ("weights", "5,5"), "ok 0", "2,0"))


def rng_call(at):
    """One of the two ways of giving a value to a shell."""
    return (lambda shell, value: shell(value)) if at % 2 else (lambda shell, value: shell.execute(value))


class Helpers(Case):
    def test_own_reading_of_commands(self):
        self.same(parsed(2, "run 2,1 0@-1,0:5 1@-1,0:6"), ("run", (2, 1), ((0, (-1, 0), 5), (1, (-1, 0), 6))))
        self.same((parsed(2, "run 2,1"), parsed(2, "change 1 neg 0@2,0")), (("run", (2, 1), ()), ("change", 1, ("neg", (0, (2, 0))))))
        for value in ("flow\n", "weigh 1,2\n", "weigh 1,02", "put", "run 2,1 ", "run 2,1  0@-1,0:5", 5, None, "weigh 1,2,3", "drop "):
            self.assertIsNone(parsed(2, value))
        self.same(behind((G, (2, 0), (0, 1)), parsed(2, "aim 1,0"))[0], (G, (2, 0), (1, 0)))


if __name__ == "__main__":
    unittest.main()
