"""The lines of a direction as an object."""

from wirebeats.counts import count_lines
from wirebeats.directions import between, period
from wirebeats.flowtexts import numbers_text
from wirebeats.lines import line_through
from wirebeats.places import canonical_rows
from wirebeats.vectors import is_far, is_tuple_of, moved_by, times_in


class Lines:
    """The lines of a direction as an object, which never changes."""

    def __init__(self, direction):
        self._rows = canonical_rows(direction)
        self._along = direction

    @classmethod
    def through(cls, point, other):
        return cls(between(point, other)[0])

    @property
    def along(self):
        return self._along

    @property
    def rows(self):
        return self._rows

    def __call__(self, box, point):
        """The line on which a point of the box is."""
        return line_through(box, self._along, point)

    def __floordiv__(self, box):
        """The number of lines that meet the box."""
        return count_lines(box, self._along)

    def __mul__(self, weights):
        """The period for weights."""
        return period(weights, self._along)

    def __contains__(self, pair):
        """Whether pair is two far points on one line."""
        dims = len(self._along)
        if not is_tuple_of(2, pair) or not is_far(dims, pair[0]) or not is_far(dims, pair[1]):
            return False
        return times_in(self._along, moved_by(pair[1], -1, pair[0])) is not None

    def __len__(self):
        return len(self._along)

    def __str__(self):
        return f"lines along {numbers_text(self._along)}"

    def __eq__(self, other):
        # Canonical place rows are the same just for the same lines.
        return isinstance(other, Lines) and self._rows == other._rows
