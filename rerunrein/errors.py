"""All errors of the package. Their fields hold what was passed, lists turned into tuples."""

# Each __init__ calls the one above without arguments: Python would keep the very objects that
# were passed in the error's message otherwise, and a list among them may change later on.
# The messages are made when they are read, since making them may fail for huge fields.

from rerunrein.common import frozen


class RerunError(ValueError):
    """What all errors of the package are."""


class BadText(RerunError):
    """A text is no expression or condition."""

    def __init__(self, position):
        super().__init__()
        self.position = frozen(position)

    def __str__(self):
        return f"no valid text goes on like this at position {self.position!r}"


class Fault(RerunError):
    """An operation of an expression or condition fails."""

    def __init__(self, reason):
        super().__init__()
        self.reason = frozen(reason)

    def __str__(self):
        return f"an operation fails: {self.reason!r}"


class BadProgram(RerunError):
    """Lines are no program."""

    def __init__(self, line, reason):
        super().__init__()
        self.line = frozen(line)
        self.reason = frozen(reason)

    def __str__(self):
        return f"no program because of line {self.line!r}: {self.reason!r}"


class UnknownProcess(RerunError):
    """There is no process of this name."""

    def __init__(self, name):
        super().__init__()
        self.name = frozen(name)

    def __str__(self):
        return f"no process has the name {self.name!r}"


class BadInputs(RerunError):
    """A pair of inputs is of no process, or of one that has a pair already."""

    def __init__(self, index):
        super().__init__()
        self.index = frozen(index)

    def __str__(self):
        return f"pair number {self.index!r} of the inputs is of no process or of one again"


class NotReady(RerunError):
    """A process cannot make a step now."""

    def __init__(self, name):
        super().__init__()
        self.name = frozen(name)

    def __str__(self):
        return f"process {self.name!r} is not ready"


class BadSender(RerunError):
    """A process cannot receive from this sender now."""

    def __init__(self, sender):
        super().__init__()
        self.sender = frozen(sender)

    def __str__(self):
        return f"no message can be received from {self.sender!r}"


class BadRecord(RerunError):
    """Rows are no record."""

    def __init__(self, reason, name, number):
        super().__init__()
        self.reason = frozen(reason)
        self.name = frozen(name)
        self.number = frozen(number)

    def __str__(self):
        return f"no record: {self.reason!r}, process {self.name!r}, number {self.number!r}"


class BadEvent(RerunError):
    """The event is not one of those that are asked for."""

    def __init__(self, event):
        super().__init__()
        self.event = frozen(event)

    def __str__(self):
        return f"no such event: {self.event!r}"


class BadRecordLine(RerunError):
    """A line is no line of a record."""

    def __init__(self, line):
        super().__init__()
        self.line = frozen(line)

    def __str__(self):
        return f"no record because of line {self.line!r}"


class BadLine(RerunError):
    """The console does not know a line."""

    def __init__(self, line):
        super().__init__()
        self.line = frozen(line)

    def __str__(self):
        return f"no such line: {self.line!r}"


class BadWait(RerunError):
    """A wait is not made of two events of different processes."""

    def __init__(self, index):
        super().__init__()
        self.index = frozen(index)

    def __str__(self):
        return f"wait number {self.index!r} is no wait"


class NotLive(RerunError):
    """Under the waits an event would be ahead of itself."""

    def __init__(self, ring):
        super().__init__()
        self.ring = frozen(ring)

    def __str__(self):
        return f"these waits wait for one another: {self.ring!r}"


class TooMany(RerunError):
    """There are more cuts than the caller wants to count."""

    def __init__(self, most):
        super().__init__()
        self.most = frozen(most)

    def __str__(self):
        return f"there are more than {self.most!r}"


class BadCut(RerunError):
    """The cut is no cut of the record."""

    def __init__(self, cut):
        super().__init__()
        self.cut = frozen(cut)

    def __str__(self):
        return f"no cut: {self.cut!r}"


class BadConditions(RerunError):
    """Lines are no conditions on the states of a record."""

    def __init__(self, line, reason):
        super().__init__()
        self.line = frozen(line)
        self.reason = frozen(reason)

    def __str__(self):
        return f"no conditions because of line {self.line!r}: {self.reason!r}"


class Missing(RerunError):
    """The console does not have what a line needs."""

    def __init__(self, what):
        super().__init__()
        self.what = frozen(what)

    def __str__(self):
        return f"there is no {self.what!r}"
