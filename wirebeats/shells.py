"""Shells, which carry out commands on a bench and tell the answers as texts."""

from wirebeats.bounds import HISTORY
from wirebeats.boxes import box_error
from wirebeats.counts import count_lines
from wirebeats.errors import BadBox, NoStarts, WireError
from wirebeats.flows import KINDS
from wirebeats.flowtexts import flow_text, numbers_text, parse_integer, parse_read, parse_vector, vector_text
from wirebeats.spans import span_of

UNKNOWN = "unknown command"
EDIT_WORDS = ("put", "change", "drop", "weigh", "aim", "undo")
TOLD_WORDS = ("flow", "weights", "direction", "starts", "array")
BOX_WORDS = ("processors", "beats", "run")


def parse_number(text):
    """The integer from 0 on with this text, or None."""
    number = parse_integer(text)
    return None if number is None or number < 0 else number


def parse_rule_words(dims, words):
    """The tuple of the rule with these words, or None."""
    if not words or words[0] not in KINDS or len(words) != 1 + KINDS[words[0]]:
        return None
    reads = [parse_read(dims, word) for word in words[1:]]
    return None if None in reads else (words[0],) + tuple(reads)


def parse_entry(dims, text):
    """The entry of an outside with this text, or None."""
    parts = text.split(":")
    if len(parts) != 2:
        return None
    read = parse_read(dims, parts[0])
    number = parse_number(parts[1])
    return None if read is None or number is None else read + (number,)


def parse_edit(dims, words):
    """The name of an edit and the tuple of its arguments, or None."""
    name = words[0]
    args = ()
    if name == "put":
        args = (parse_rule_words(dims, words[1:]),)
    elif name == "change":
        args = (parse_number(words[1]), parse_rule_words(dims, words[2:])) if len(words) > 1 else (None,)
    elif name in ("weigh", "aim"):
        args = (parse_vector(dims, words[1]),) if len(words) == 2 else (None,)
    elif len(words) > 1:
        args = (None,)
    return None if None in args else (name, args)


def parse_box_command(dims, words):
    """The name of a command for a box, the vector and the entries behind it, or None."""
    if len(words) < 2 or (words[0] != "run" and len(words) > 2):
        return None
    vector = parse_vector(dims, words[1])
    entries = [parse_entry(dims, word) for word in words[2:]]
    return None if vector is None or None in entries else (words[0], vector, tuple(entries))


def ring_text(ring):
    return " ".join(["ring"] + [f"{plane}.{operand}" for plane, operand in ring])


def check_box(dims, value):
    """Raise BadBox if value is no box."""
    error = box_error(dims, value)
    if error is not None:
        raise BadBox(error)


def edited(bench, name, args):
    """Do an edit, or undo one, and return the new version."""
    if name == "put":
        return bench.put(args[0])
    if name == "change":
        return bench.change(args[0], args[1])
    if name == "drop":
        return bench.drop()
    if name == "weigh":
        return bench.weigh(args[0])
    if name == "aim":
        return bench.aim(args[0])
    return bench.undo()


def array_answer(bench):
    word, told = bench.array_at()
    if word != "array":
        return word
    return f"{told[0]} {vector_text(told[1])} {vector_text(told[2])}"


def told_answer(bench, name):
    """The answer to a command that asks for what holds now."""
    if name == "flow":
        return flow_text(bench.flow_at())
    if name == "weights":
        return vector_text(bench.weights_at())
    if name == "direction":
        return vector_text(bench.direction_at())
    if name == "array":
        return array_answer(bench)
    word, told = bench.starts_at()
    return numbers_text(told) if word == "starts" else ring_text(told)


def beats_answer(bench, box):
    flow = bench.flow_at()
    word, told = bench.starts_at()
    if word == "ring":
        return word
    check_box(flow[0], box)
    return str(span_of(flow, (bench.weights_at(), told), box)[2])


def box_answer(bench, name, box, outside):
    """The answer to a command for a box."""
    if name == "beats":
        return beats_answer(bench, box)
    if name == "processors":
        check_box(bench.flow_at()[0], box)
        return str(count_lines(box, bench.direction_at()))
    try:
        rows = bench(box, outside)
    except NoStarts:
        return "ring"
    return " / ".join([numbers_text(row) for row in rows])


def answer_to(bench, line):
    """The answer to a line; its errors are those of the command."""
    words = line.split(" ")
    dims = bench.flow_at()[0]
    if words[0] in EDIT_WORDS:
        edit = parse_edit(dims, words)
        return UNKNOWN if edit is None else f"ok {edited(bench, edit[0], edit[1])}"
    if words[0] in BOX_WORDS:
        command = parse_box_command(dims, words)
        return UNKNOWN if command is None else box_answer(bench, command[0], command[1], command[2])
    return told_answer(bench, line) if line in TOLD_WORDS else UNKNOWN


class Shell:
    """A shell for commands that works on a bench."""

    def __init__(self, bench):
        self._bench = bench
        self._pairs = ()

    @classmethod
    def fed(cls, bench, *values):
        """A shell for this bench that has executed all values."""
        shell = cls(bench)
        for value in values:
            shell.execute(value)
        return shell

    def execute(self, value):
        """Carry out a command and return the answer."""
        command = value if isinstance(value, str) else None
        answer = UNKNOWN
        if command is not None:
            answer = self._answer(command)
        self._pairs = (self._pairs + ((command, answer),))[-HISTORY:]
        return answer

    def __call__(self, value):
        return self.execute(value)

    def _answer(self, line):
        try:
            return answer_to(self._bench, line)
        except WireError as error:
            return f"error {error}"

    def transcript(self):
        """The last pairs (command, answer), from the oldest to the newest one."""
        return self._pairs

    @property
    def last(self):
        return self._pairs[-1] if self._pairs else None
