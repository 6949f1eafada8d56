"""The errors of the package: all stand under StudioError, none under another one."""


class StudioError(ValueError):
    """What all errors of the package are; it is never raised itself."""


class InvalidNumber(StudioError):
    """Tells of an integer that is none, or lies beyond its bounds."""

    def __init__(self, value):
        self.value = value


class InvalidName(StudioError):
    """Tells of a name, or names, that are none or that nobody has."""

    def __init__(self, value):
        self.value = value


class InvalidPaces(StudioError):
    """Tells of paces that are none."""

    def __init__(self, value):
        self.value = value


class InvalidBars(StudioError):
    """Tells of bars that are none."""

    def __init__(self, value):
        self.value = value


class InvalidPlace(StudioError):
    """Tells of a place that the metre does not have."""

    def __init__(self, value):
        self.value = value


class InvalidPart(StudioError):
    """Tells of a part that is none."""

    def __init__(self, value):
        self.value = value


class InvalidCurve(StudioError):
    """Tells of a curve that is none."""

    def __init__(self, value):
        self.value = value


class InvalidTuning(StudioError):
    """Tells of a tuning that is none."""

    def __init__(self, value):
        self.value = value


class InvalidTone(StudioError):
    """Tells of a tone that is none."""

    def __init__(self, value):
        self.value = value


class InvalidPool(StudioError):
    """Tells of a pool that is none."""

    def __init__(self, value):
        self.value = value


class InvalidClip(StudioError):
    """Tells of a clip that is none."""

    def __init__(self, value):
        self.value = value


class InvalidEffect(StudioError):
    """Tells of an effect that is none."""

    def __init__(self, value):
        self.value = value


class InvalidSamples(StudioError):
    """Tells of samples, or a sound, that are none."""

    def __init__(self, value):
        self.value = value


class InvalidNodes(StudioError):
    """Tells of nodes that are none."""

    def __init__(self, value):
        self.value = value


class InvalidOrder(StudioError):
    """Tells of an order that the project does not let."""

    def __init__(self, value):
        self.value = value


class InvalidBlocks(StudioError):
    """Tells of blocks that are none."""

    def __init__(self, value):
        self.value = value


class InvalidKept(StudioError):
    """Tells of kept rows that are none."""

    def __init__(self, value):
        self.value = value


class InvalidMark(StudioError):
    """Tells of a mark that was not made."""

    def __init__(self, value):
        self.value = value


class InvalidBytes(StudioError):
    """Tells of bytes, or a stream of them, that are none."""

    def __init__(self, value):
        self.value = value


class InvalidText(StudioError):
    """Tells of a text that is not the writing of anything."""

    def __init__(self, value):
        self.value = value


class InvalidValue(StudioError):
    """Tells of a value of another kind than is asked."""

    def __init__(self, value):
        self.value = value


class InvalidDeed(StudioError):
    """Tells of a deed that is none."""

    def __init__(self, value):
        self.value = value


class InvalidStamp(StudioError):
    """Tells of a stamp, or steps, that are none."""

    def __init__(self, value):
        self.value = value


class Round(StudioError):
    """Tells of nodes that hear one another at once in a ring."""

    def __init__(self, names):
        self.names = names


class Undefined(StudioError):
    """Tells that a call has no result, by a word for the reason."""

    def __init__(self, what):
        self.what = what
