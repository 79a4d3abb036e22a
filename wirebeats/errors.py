"""The errors of the package."""


class WireError(ValueError):
    """What all errors of the package are. The message of an error is its name."""

    def __str__(self):
        return str(self.__class__.__name__)


class BadArray(WireError):
    """A value is no array."""

    def __init__(self, error):
        self.error = error


class BadBatch(WireError):
    """A batch is not a list or tuple of edits."""


class BadBeats(WireError):
    """A value is no beats of the flow."""

    def __init__(self, error):
        self.error = error


class BadBlocks(WireError):
    """A value does not list all blocks of the box, each once."""

    def __init__(self, blocks):
        self.blocks = blocks


class BadBox(WireError):
    """A value is no box."""

    def __init__(self, error):
        self.error = error


class BadDirection(WireError):
    """A value is no direction."""

    def __init__(self, direction):
        self.direction = direction


class BadFlow(WireError):
    """A value is no flow."""

    def __init__(self, error):
        self.error = error


class BadHops(WireError):
    """A value is no hops for the distance."""

    def __init__(self, error):
        self.error = error


class BadLags(WireError):
    """A value is no lags for the array."""

    def __init__(self, lags):
        self.lags = lags


class BadMatrix(WireError):
    """A value is no matrix of a change of the array."""

    def __init__(self, matrix):
        self.matrix = matrix


class BadOutside(WireError):
    """A value is no outside of the flow and the box."""

    def __init__(self, error):
        self.error = error


class BadRule(WireError):
    """A value is no rule."""

    def __init__(self, word):
        self.word = word


class BadText(WireError):
    """A value is not the text of a flow."""

    def __init__(self, index):
        self.index = index


class BadWeights(WireError):
    """A value is no weights for the dimensions."""

    def __init__(self, vector):
        self.vector = vector


class Busy(WireError):
    """The bench is in the middle of a batch."""


class Flat(WireError):
    """The period of the weights and the direction is 0."""


class InUse(WireError):
    """This plane still reads the last one."""

    def __init__(self, plane):
        self.plane = plane


class Late(WireError):
    """The delay of this tap would leave its bounds."""

    def __init__(self, plane, operand):
        self.plane = plane
        self.operand = operand


class Looped(WireError):
    """Words of the box read one another in a loop."""

    def __init__(self, loop):
        self.loop = loop


class NoCount(WireError):
    """A value is no integer from 1 on."""

    def __init__(self, many):
        self.many = many


class NoIndex(WireError):
    """Nothing has this index."""

    def __init__(self, index):
        self.index = index


class NoMeeting(WireError):
    """A value is no meeting vector."""

    def __init__(self, vector):
        self.vector = vector


class NoNumber(WireError):
    """A value is not a number that serves here."""

    def __init__(self, number):
        self.number = number


class NoOperand(WireError):
    """The rule has no such operand."""

    def __init__(self, operand):
        self.operand = operand


class NoPlace(WireError):
    """A value is no place."""

    def __init__(self, place):
        self.place = place


class NoPlane(WireError):
    """A value is no plane."""

    def __init__(self, plane):
        self.plane = plane


class NoPoint(WireError):
    """A value is not a point that serves here."""

    def __init__(self, point):
        self.point = point


class NoStarts(WireError):
    """This ring bars the weights from having starts."""

    def __init__(self, ring):
        self.ring = ring


class NotFree(WireError):
    """The sides are not free."""


class NotYet(WireError):
    """This word reads a word that is not there yet."""

    def __init__(self, plane, point):
        self.plane = plane
        self.point = point


class NothingToUndo(WireError):
    """No edit stands."""


class NoVersion(WireError):
    """The bench has no such version."""

    def __init__(self, version):
        self.version = version


class OtherDims(WireError):
    """The flows have different dimensions."""


class OtherFlow(WireError):
    """A value is not a Beats of an equal flow."""


class OtherWeights(WireError):
    """The weights of both are not equal."""


class OutOfReach(WireError):
    """The vector of this tap is not a distance."""

    def __init__(self, plane, operand):
        self.plane = plane
        self.operand = operand


class Parted(WireError):
    """An array has another number of parts than one."""

    def __init__(self, number):
        self.number = number


class Rejected(WireError):
    """This edit of the batch raised an error."""

    def __init__(self, index):
        self.index = index


class Same(WireError):
    """Both points are equal."""


class TooLarge(WireError):
    """Something is above this limit."""

    def __init__(self, limit):
        self.limit = limit


class TooMany(WireError):
    """There would be more than this limit."""

    def __init__(self, limit):
        self.limit = limit


class TooManyEdits(WireError):
    """As many edits stand as a bench keeps."""


class TooShort(WireError):
    """The delay of the read is less than the number of hops."""

    def __init__(self, delay):
        self.delay = delay


class TooSmall(WireError):
    """The flow has only one plane."""


class Unfit(WireError):
    """The rows and weights do not fit the array."""


class Unlike(WireError):
    """The matrix is not place rows with the same lines."""
