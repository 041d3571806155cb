"""The errors of the program. Each keeps its arguments in attributes of the same names."""


class FrameError(ValueError):
    """The base class of the errors about values that do not fit."""


class InvalidLead(FrameError):
    """A value that is no lead."""

    def __init__(self, value):
        self.value = value


class InvalidWeb(FrameError):
    """Jobs or sizes that make no web."""

    def __init__(self, reason, job):
        self.reason = reason
        self.job = job


class InvalidPlan(FrameError):
    """A part of a plan that does not fit its web."""

    def __init__(self, part, index):
        self.part = part
        self.index = index


class InvalidSharing(FrameError):
    """A sharing that does not fit its web."""

    def __init__(self, index):
        self.index = index


class InvalidText(FrameError):
    """A text that is not of the form of a web or a plan."""

    def __init__(self, line, word):
        self.line = line
        self.word = word


class InvalidCommand(FrameError):
    """A line that is no command of a desk."""

    def __init__(self, word):
        self.word = word


class InvalidCertificate(FrameError):
    """A certificate that does not show what it should."""

    def __init__(self, reason, where):
        self.reason = reason
        self.where = where


class Unsettled(FrameError):
    """Two uses of a buffer with different states and no order."""

    def __init__(self, buffer, one, other):
        self.buffer = buffer
        self.one = one
        self.other = other


class NotShareable(FrameError):
    """A buffer for which no sharing is right, because of this user."""

    def __init__(self, buffer, user):
        self.buffer = buffer
        self.user = user


class NoJob(KeyError):
    """A value that is not the name of a job."""

    def __init__(self, name):
        self.name = name


class NoBuffer(KeyError):
    """A value that is not the name of a buffer."""

    def __init__(self, name):
        self.name = name


class Standstill(RuntimeError):
    """A plan in which a ring of jobs waits for itself."""

    def __init__(self, ring):
        self.ring = ring


class NotReady(RuntimeError):
    """A job whose next step may not come yet."""

    def __init__(self, job):
        self.job = job


class CannotLeaveOut(RuntimeError):
    """A job that is not optional."""

    def __init__(self, job):
        self.job = job


class Busy(RuntimeError):
    """A board that is edited while one of its watches runs."""


class TooMany(OverflowError):
    """More than a limit allows."""

    def __init__(self, limit):
        self.limit = limit


class NothingToUndo(LookupError):
    """A board without an edit that can be undone."""


class NothingToRedo(LookupError):
    """A board without an edit that can be redone."""
