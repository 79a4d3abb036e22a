"""Beats of a flow as objects."""

from wirebeats.beats import beat_of, beats_error, check_weights, delays_of
from wirebeats.errors import BadBeats, BadFlow, NoNumber, NoPlane, NoStarts, OtherFlow, OtherWeights
from wirebeats.flows import flow_error, is_plane
from wirebeats.flowtexts import beats_text
from wirebeats.starts import find_starts
from wirebeats.vectors import is_integer


def check_flow(flow):
    """Raise BadFlow if this is no flow."""
    error = flow_error(flow)
    if error is not None:
        raise BadFlow(error)


class Beats:
    """A flow and its beats as an object, which never changes."""

    def __init__(self, flow, value):
        check_flow(flow)
        error = beats_error(flow, value)
        if error is not None:
            raise BadBeats(error)
        self.flow = flow
        self.value = value
        self.weights = value[0]
        self.delays = delays_of(flow, value)

    @classmethod
    def least(cls, flow, weights):
        """The Beats with these weights and the least starts."""
        check_flow(flow)
        check_weights(flow[0], weights)
        word, told = find_starts(flow, weights)
        if word == "ring":
            raise NoStarts(told)
        return cls(flow, (weights, told))

    @property
    def starts(self):
        return self.value[1]

    def __call__(self, plane, point):
        """The beat of a plane at a point."""
        return beat_of(self.flow, self.value, plane, point)

    def __getitem__(self, plane):
        """The start of a plane."""
        if not is_plane(self.flow, plane):
            raise NoPlane(plane)
        return self.starts[plane]

    def __iter__(self):
        raise TypeError("a Beats is not looped over")

    def __add__(self, number):
        if not is_integer(number):
            raise NoNumber(number)
        return Beats(self.flow, (self.weights, tuple([start + number for start in self.starts])))

    def __sub__(self, number):
        if not is_integer(number):
            raise NoNumber(number)
        return Beats(self.flow, (self.weights, tuple([start - number for start in self.starts])))

    def __mul__(self, number):
        if not is_integer(number) or number < 1:
            raise NoNumber(number)
        weights = tuple([weight * number for weight in self.weights])
        return Beats(self.flow, (weights, tuple([start * number for start in self.starts])))

    def _check_like(self, other):
        """Raise OtherFlow or OtherWeights if other is not a Beats of an equal flow and of equal weights."""
        if not isinstance(other, Beats) or self.flow != other.flow:
            raise OtherFlow()
        if self.weights != other.weights:
            raise OtherWeights()

    def __and__(self, other):
        self._check_like(other)
        starts = [min(one, two) for one, two in zip(self.starts, other.starts)]
        return Beats(self.flow, (self.weights, tuple(starts)))

    def __or__(self, other):
        self._check_like(other)
        starts = [max(one, two) for one, two in zip(self.starts, other.starts)]
        return Beats(self.flow, (self.weights, tuple(starts)))

    def __len__(self):
        return len(self.value[1])

    def __str__(self):
        return str(beats_text(self.value))

    def __eq__(self, other):
        return isinstance(other, Beats) and self.flow == other.flow and self.value == other.value
