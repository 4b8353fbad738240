"""The errors of the package; each one has what it was created from as attributes."""


class DuelError(ValueError):
    """The base of the errors below, except those of a value that is looked up and not found."""


class NoSet(DuelError):
    """A value is not a set of the kind that is needed."""

    def __init__(self, value):
        self.value = value


class SameAlternative(DuelError):
    """An alternative has no duel with itself."""

    def __init__(self, value):
        self.value = value


class NoTop(DuelError):
    """An alternative cannot win in the way that is asked for."""

    def __init__(self, value):
        self.value = value


class NoOrder(DuelError):
    """A value does not contain each alternative once."""


class TooLarge(DuelError):
    """A result would have more items than the limit."""

    def __init__(self, limit):
        self.limit = limit


class NotOfKind(DuelError):
    """The alternative of an address is not of a kind."""

    def __init__(self, value):
        self.value = value


class NoFlag(DuelError):
    """A value is neither True nor False."""

    def __init__(self, value):
        self.value = value


class NoPlans(DuelError):
    """There is no plan to put in a series."""


class BadTable(DuelError):
    """A value is not a table; the error is what table_error returns for it."""

    def __init__(self, error):
        self.error = error


class NotStrong(DuelError):
    """A table has more than one layer."""

    def __init__(self, layers):
        self.layers = layers


class TooManyEdits(DuelError):
    """As many edits stand as a bench holds."""


class LastOne(DuelError):
    """The only alternative of a table cannot be removed."""


class NothingToUndo(DuelError):
    """No edit stands."""


class BadEdits(DuelError):
    """A value is not a list or tuple of edits, or it is too long for one run."""


class BadEdit(DuelError):
    """The item at this index is not an edit."""

    def __init__(self, index):
        self.index = index


class Rejected(DuelError):
    """The edit at this index could not be done."""

    def __init__(self, index):
        self.index = index


class Busy(DuelError):
    """A bench is in the middle of a run."""


class BadText(DuelError):
    """A value is not the text of what is needed."""

    def __init__(self, error):
        self.error = error


class NoAlternative(LookupError):
    """A value is not an alternative of the table."""

    def __init__(self, value):
        self.value = value


class NoAddress(LookupError):
    """A value is not the address of an alternative of the plan."""

    def __init__(self, value):
        self.value = value


class NoKind(LookupError):
    """A value is not the name of a kind."""

    def __init__(self, value):
        self.value = value


class NoIndex(LookupError):
    """A value is not an index of one of the alternatives that are counted."""

    def __init__(self, value):
        self.value = value


class NoVersion(LookupError):
    """A value is not a version of the bench."""

    def __init__(self, value):
        self.value = value
