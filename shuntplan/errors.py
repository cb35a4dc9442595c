"""The errors that the program raises, each with what it is about."""


class InvalidName(ValueError):
    """What should be a name is none."""

    def __init__(self, value):
        self.value = value


class InvalidEnd(ValueError):
    """What should be an end of a wagon is none."""

    def __init__(self, value):
        self.value = value


class InvalidRow(ValueError):
    """What should be a row of directed wagons is none."""

    def __init__(self, value):
        self.value = value


class InvalidCoupling(ValueError):
    """What should be a coupling cannot be added to a layout."""

    def __init__(self, value):
        self.value = value


class InvalidLayout(ValueError):
    """What should be, or make up, a layout does not."""

    def __init__(self, value):
        self.value = value


class InvalidOrder(ValueError):
    """What should be an order is none."""

    def __init__(self, value):
        self.value = value


class InvalidExchange(ValueError):
    """What should be an exchange of an order is none."""

    def __init__(self, value):
        self.value = value


class InvalidNumber(ValueError):
    """What should be an integer of a given range is none."""

    def __init__(self, value):
        self.value = value


class InvalidBytes(ValueError):
    """What should be the byte values of a layout is not."""

    def __init__(self, value):
        self.value = value


class InvalidFamily(ValueError):
    """What should be, or belong to, a family does not."""

    def __init__(self, value):
        self.value = value


class InvalidDeed(ValueError):
    """What should be a deed is none, or the deed with this index was refused."""

    def __init__(self, index):
        self.index = index


class OtherWagons(ValueError):
    """Things that should have the same wagons or names have different ones."""


class ParseError(ValueError):
    """A text is not readable; its prefix of this length could have gone on."""

    def __init__(self, offset):
        self.offset = offset


class NoWagon(LookupError):
    """There is no wagon with this name."""

    def __init__(self, name):
        self.name = name


class NotCoupled(LookupError):
    """There is nothing to cut at this end."""

    def __init__(self, end):
        self.end = end


class PrimeStretch(LookupError):
    """The stretch with these names is prime."""

    def __init__(self, stretch):
        self.stretch = stretch


class MixedPaths(LookupError):
    """A comparison has paths of both kinds, "first" and "second"."""


class Missing(KeyError):
    """The wagon that should be removed does not exist."""

    def __init__(self, name):
        self.name = name


class Twice(KeyError):
    """The wagon that should be added exists already."""

    def __init__(self, name):
        self.name = name


class TooLarge(OverflowError):
    """There are more wagons than this limit."""

    def __init__(self, limit):
        self.limit = limit


class AlreadyCoupled(RuntimeError):
    """This end has a partner where it must not."""

    def __init__(self, end):
        self.end = end


class NothingToUndo(RuntimeError):
    """No deed stands that could be undone."""


class NothingToRedo(RuntimeError):
    """No undone deed could be done again."""
