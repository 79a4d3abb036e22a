"""Benches, which keep a flow with its weights and its direction while they are edited."""

from wirebeats.arrays import array_of
from wirebeats.beats import check_weights
from wirebeats.bounds import BATCH, MAX_PLANES
from wirebeats.boxes import box_error
from wirebeats.directions import check_direction
from wirebeats.errors import BadBatch, BadBox, BadFlow, BadRule, Busy, InUse, NoPlane, NoStarts, NothingToUndo
from wirebeats.errors import NoVersion, Rejected, TooMany, TooManyEdits, TooSmall, WireError
from wirebeats.flows import flow_error, has_rule, is_plane, readers_of, reads_of, rule_error
from wirebeats.places import canonical_rows
from wirebeats.starts import find_starts
from wirebeats.vectors import dot, is_within
from wirebeats.words import words_of

EDITS = {"put": 1, "drop": 0, "change": 2, "weigh": 1, "aim": 1}


def check_rule(dims, planes, rule):
    """Raise BadRule if this is no rule whose reads are of so many planes."""
    error = rule_error(dims, planes, rule)
    if error is not None:
        raise BadRule(error[1])


def flow_with(flow, rule):
    """The flow with a rule behind the last one."""
    dims, rules = flow
    check_rule(dims, len(rules) + 1, rule)
    if len(rules) == MAX_PLANES:
        raise TooMany(MAX_PLANES)
    return (dims, rules + (rule,))


def flow_without_last(flow):
    """The flow without its last plane."""
    dims, rules = flow
    if len(rules) == 1:
        raise TooSmall()
    last = len(rules) - 1
    readers = [plane for plane in readers_of(flow, last) if plane != last]
    if readers:
        raise InUse(readers[0])
    return (dims, rules[:last])


def flow_changed(flow, plane, rule):
    """The flow with a rule in the place of that of a plane."""
    dims, rules = flow
    if not is_plane(flow, plane):
        raise NoPlane(plane)
    check_rule(dims, len(rules), rule)
    return (dims, rules[:plane] + (rule,) + rules[plane + 1:])


def state_behind(state, edit):
    """The flow, the weights and the direction behind an edit."""
    flow, weights, direction = state
    name = edit[0]
    if name == "put":
        flow = flow_with(flow, edit[1])
    elif name == "drop":
        flow = flow_without_last(flow)
    elif name == "change":
        flow = flow_changed(flow, edit[1], edit[2])
    elif name == "weigh":
        weights = edit[1]
        check_weights(flow[0], weights)
    else:
        direction = edit[1]
        check_direction(flow[0], direction)
    return (flow, weights, direction)


def is_edit(value):
    """Whether value has the form of an edit, with any further items."""
    if not isinstance(value, tuple) or not value or not isinstance(value[0], str):
        return False
    return value[0] in EDITS and len(value) == 1 + EDITS[value[0]]


def is_batch(value):
    if not isinstance(value, (list, tuple)) or len(value) > BATCH:
        return False
    return all([is_edit(item) for item in value])


class Bench:
    """A flow with weights and a direction, and the edits of them that stand.

    All that can be undone is in one tuple, with a pair (edit, state) for each version, so that whatever is
    reverted comes back as it was.
    """

    LIMIT = 60

    def __init__(self, flow, weights, direction):
        error = flow_error(flow)
        if error is not None:
            raise BadFlow(error)
        check_weights(flow[0], weights)
        check_direction(flow[0], direction)
        self._versions = ((None, (flow, weights, direction)),)
        self._busy = False

    @classmethod
    def _made(cls, versions):
        """A bench of this class with these versions."""
        flow, weights, direction = versions[0][1]
        bench = cls(flow, weights, direction)
        bench._versions = versions
        return bench

    def _check_free(self):
        if self._busy:
            raise Busy()

    def _check_state(self, state):
        """Raise an error if the bench may not come into this state; this class takes each."""

    def _do(self, edit):
        """Do an edit and return the new version."""
        if len(self._versions) > self.LIMIT:
            raise TooManyEdits()
        state = state_behind(self._versions[-1][1], edit)
        self._check_state(state)
        self._versions = self._versions + ((edit, state),)
        return len(self._versions) - 1

    def _edit(self, edit):
        self._check_free()
        return self._do(edit)

    def put(self, rule):
        return self._edit(("put", rule))

    def drop(self):
        return self._edit(("drop",))

    def change(self, plane, rule):
        return self._edit(("change", plane, rule))

    def weigh(self, weights):
        return self._edit(("weigh", weights))

    def aim(self, direction):
        return self._edit(("aim", direction))

    def undo(self):
        """Revert the last edit that stands and return the new version."""
        self._check_free()
        if len(self._versions) == 1:
            raise NothingToUndo()
        self._versions = self._versions[:-1]
        return len(self._versions) - 1

    def edits(self):
        return tuple([edit for edit, _ in self._versions[1:]])

    def attempt(self, batch, *, on_step=None):
        """Do all edits of a batch, or none if one of them or on_step raises an error."""
        self._check_free()
        if not is_batch(batch):
            raise BadBatch()
        edits = tuple(batch)
        kept = self._versions
        self._busy = True
        try:
            for index, edit in enumerate(edits):
                self._do_of_batch(index, edit)
                if on_step is not None:
                    on_step(self)
            kept = self._versions
        finally:
            self._versions = kept
            self._busy = False
        return len(self._versions) - 1

    def _do_of_batch(self, index, edit):
        try:
            self._do(edit)
        except WireError:
            raise Rejected(index) from None

    def _state_at(self, version):
        """The flow, the weights and the direction of a version, or the present ones for None."""
        if version is None:
            return self._versions[-1][1]
        if not is_within(version, 0, len(self._versions) - 1):
            raise NoVersion(version)
        return self._versions[version][1]

    def flow_at(self, *, version=None):
        return self._state_at(version)[0]

    def weights_at(self, *, version=None):
        return self._state_at(version)[1]

    def direction_at(self, *, version=None):
        return self._state_at(version)[2]

    def starts_at(self, *, version=None):
        flow, weights, _ = self._state_at(version)
        return find_starts(flow, weights)

    def array_at(self, *, version=None):
        """The array of a version with the least starts, or what bars it."""
        flow, weights, direction = self._state_at(version)
        word, told = find_starts(flow, weights)
        if word == "ring":
            return (word, told)
        if dot(weights, direction) == 0:
            return ("still", None)
        return ("array", array_of(flow, (weights, told), direction, canonical_rows(direction)))

    def each_version(self, *, start=0):
        """Yield (flow, weights, direction) for each version from start on."""
        if not is_within(start, 0, len(self._versions) - 1):
            raise NoVersion(start)
        for _, state in self._versions[start:]:
            yield state

    def copy(self):
        """A bench of the same class with the same edits."""
        return self._made(self._versions)

    @property
    def period(self):
        _, weights, direction = self._state_at(None)
        return abs(dot(weights, direction))

    def __call__(self, box, outside):
        """The words of a box."""
        flow, weights, _ = self._state_at(None)
        word, told = find_starts(flow, weights)
        if word == "ring":
            raise NoStarts(told)
        error = box_error(flow[0], box)
        if error is not None:
            raise BadBox(error)
        return words_of(flow, (weights, told), box, outside)

    def __getitem__(self, plane):
        flow = self.flow_at()
        if not is_plane(flow, plane):
            raise NoPlane(plane)
        return flow[1][plane]

    def __iter__(self):
        raise TypeError("a bench is not looped over")

    def __contains__(self, value):
        return has_rule(self.flow_at()[1], value)

    def __len__(self):
        return len(self.flow_at()[1])

    def __bool__(self):
        return bool(self.starts_at()[0] == "starts")

    def __str__(self):
        reads = reads_of(self.flow_at())
        return f"{len(self)} planes, {len(reads)} reads, period {self.period}, {len(self._versions) - 1} edits"

    def __eq__(self, other):
        return isinstance(other, Bench) and self._state_at(None) == other._state_at(None)


class ServedBench(Bench):
    """A bench that always has starts."""

    def __init__(self, flow, weights, direction):
        super().__init__(flow, weights, direction)
        self._check_state((flow, weights, direction))

    def _check_state(self, state):
        """Raise NoStarts if the weights of the state have no starts."""
        word, told = find_starts(state[0], state[1])
        if word == "ring":
            raise NoStarts(told)

    @property
    def starts(self):
        return self.starts_at()[1]
