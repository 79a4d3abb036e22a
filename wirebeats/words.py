"""Words: what the planes of a flow make at the points of a box, and flows as objects."""

from wirebeats.beats import beat_of, beats_error
from wirebeats.bounds import MAX_ENTRIES, MAX_SIZE, MODULUS
from wirebeats.boxes import box_error, check_small, is_point, point_index, points_of
from wirebeats.errors import BadBeats, BadBox, BadFlow, BadOutside, NoPlane, NoPoint
from wirebeats.flows import flow_error, has_rule, is_plane, joined, reads_of
from wirebeats.flowtexts import flow_text
from wirebeats.sheets import laid_out, make_words, rounds_of
from wirebeats.vectors import is_tuple_of, is_within


def is_beside(box, value):
    """Whether value is a vector near the box, as an entry may have it, but no point of it."""
    if not is_tuple_of(len(box), value):
        return False
    beside = False
    for item, size in zip(value, box):
        if not is_within(item, -MAX_SIZE, MAX_SIZE + size - 1):
            return False
        beside = beside or not 0 <= item < size
    return beside


def entry_error(flow, box, value):
    """The word for what is wrong with an entry by itself, or None."""
    if not is_tuple_of(3, value):
        return "entry"
    plane, vector, word = value
    if not is_plane(flow, plane):
        return "plane"
    if not is_beside(box, vector):
        return "vector"
    if not is_within(word, 0, MODULUS - 1):
        return "word"
    return None


def outside_error(flow, box, value):
    """The first reason why value is no outside of the flow and the box, or None."""
    if not isinstance(value, tuple) or len(value) > MAX_ENTRIES:
        return (None, "outside")
    for index, entry in enumerate(value):
        word = entry_error(flow, box, entry)
        if word is None and index > 0 and entry[:2] <= value[index - 1][:2]:
            word = "order"
        if word is not None:
            return (index, word)
    return None


def check_outside(flow, box, outside):
    """Raise BadOutside if this is no outside of the flow and the box."""
    error = outside_error(flow, box, outside)
    if error is not None:
        raise BadOutside(error)


def each_word(flow, beats, box, outside):
    """Yield (beat, plane, point, word) for all words of a small box, ascending."""
    points = points_of(box)
    check_outside(flow, box, outside)
    addresses, makers = laid_out(flow, box, outside)
    point_of = {address: point for address, point in zip(addresses, points)}
    for beat, plane, working in rounds_of(box, beats, addresses):
        for address in working:
            make_words(makers[plane], [address])
            yield (beat, plane, point_of[address], makers[plane][1][address])


def words_of(flow, beats, box, outside):
    """For each plane, the tuple of the words at all points of a small box, ascending by points."""
    check_small(box)
    check_outside(flow, box, outside)
    return words_made(flow, beats, box, outside)


def words_made(flow, beats, box, outside):
    """What words_of returns, for a box and an outside that are right."""
    addresses, makers = laid_out(flow, box, outside)
    # Every delay is at least 1, so what is read within the box has been made in an earlier round.
    for _, plane, working in rounds_of(box, beats, addresses):
        make_words(makers[plane], working)
    return tuple([tuple([sheet[address] for address in addresses]) for _, sheet, _ in makers])


def word_at(flow, beats, box, outside, plane, point):
    """The word of a plane at a point of a small box."""
    check_small(box)
    check_outside(flow, box, outside)
    if not is_plane(flow, plane):
        raise NoPlane(plane)
    if not is_point(box, point):
        raise NoPoint(point)
    addresses, makers = laid_out(flow, box, outside)
    wanted = beat_of(flow, beats, plane, point)
    for beat, at, working in rounds_of(box, beats, addresses):
        if beat > wanted:
            break
        make_words(makers[at], working)
    return makers[plane][1][addresses[point_index(box, point)]]


class Flow:
    """A flow as an object, which never changes."""

    def __init__(self, value):
        error = flow_error(value)
        if error is not None:
            raise BadFlow(error)
        self.value = value
        self.dims = value[0]
        self.rules = value[1]
        self.reads = reads_of(value)

    @classmethod
    def of(cls, dims, *rules):
        return cls((dims, rules))

    def __getitem__(self, plane):
        if not is_plane(self.value, plane):
            raise NoPlane(plane)
        return self.rules[plane]

    def __iter__(self):
        raise TypeError("a Flow is not looped over")

    def __contains__(self, value):
        return has_rule(self.rules, value)

    def __len__(self):
        return len(self.rules)

    def __str__(self):
        return str(flow_text(self.value))

    def __call__(self, beats, box, outside):
        """The words of a box."""
        error = beats_error(self.value, beats)
        if error is not None:
            raise BadBeats(error)
        error = box_error(self.dims, box)
        if error is not None:
            raise BadBox(error)
        return words_of(self.value, beats, box, outside)

    def __add__(self, other):
        return Flow(joined(self.value, other.value))

    def __eq__(self, other):
        return isinstance(other, Flow) and self.value == other.value
