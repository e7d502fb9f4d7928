"""The errors of the package; each keeps what it was made with."""


class FoldError(ValueError):
    """Any error that the package raises on purpose."""


class BadText(FoldError):
    """A text that breaks a rule: at this row, or None."""

    def __init__(self, row):
        self.row = row


class BadName(FoldError):
    """A value that is not the name that is wanted."""

    def __init__(self, value):
        self.value = value


class BadModule(FoldError):
    """A module that breaks a rule: its name, and the row in its text."""

    def __init__(self, module, row):
        self.module = module
        self.row = row


class BadValue(FoldError):
    """A value that is not of the form that is wanted."""

    def __init__(self, value):
        self.value = value


class UnknownName(FoldError):
    """A value that names nothing that is there."""

    def __init__(self, value):
        self.value = value


class LimitExceeded(FoldError):
    """More of something than this limit allows."""

    def __init__(self, limit):
        self.limit = limit


class NotLegal(FoldError):
    """Two pieces that a folding must not put together or apart."""

    def __init__(self, one, other):
        self.one = one
        self.other = other


class Noticed(FoldError):
    """An image that a run tells from its program, at this moment."""

    def __init__(self, moment):
        self.moment = moment


class NotFunction(FoldError):
    """A piece of data where a function is wanted."""

    def __init__(self, value):
        self.value = value


class NotSure(FoldError):
    """A patch that two moments and their continuation show unsure."""

    def __init__(self, one, other, later):
        self.one = one
        self.other = other
        self.later = later


class Clash(FoldError):
    """A member that would join although a module has its name."""

    def __init__(self, value):
        self.value = value


class BadJournal(FoldError):
    """A journal that breaks a rule: at this row, or None."""

    def __init__(self, row):
        self.row = row


class BadQuestion(FoldError):
    """A question that cannot go on at this place."""

    def __init__(self, place):
        self.place = place
