"""The errors of the package.

Messages do not show a field that may be any value: such a value need not have a text.
"""


class WorkError(ValueError):
    """A value is not what it should be."""


class InvalidPlan(WorkError):
    """Some values are no plan; part is the first of them that is wrong."""

    def __init__(self, part):
        WorkError.__init__(self, f"not a plan: {part}")
        self.part = part


class InvalidProgram(WorkError):
    """A value is no program; name is that of a wrong plan in it, or None."""

    def __init__(self, name):
        WorkError.__init__(self, f"not such a program: {name}")
        self.name = name


class InvalidName(WorkError):
    """A value is not a word, or does not name what it should."""

    def __init__(self, value):
        WorkError.__init__(self, "not such a name")
        self.value = value


class InvalidKey(WorkError):
    """A value is not the key of a task."""

    def __init__(self, value):
        WorkError.__init__(self, "not a key")
        self.value = value


class InvalidNumber(WorkError):
    """A value is not an integer in its range."""

    def __init__(self, value):
        WorkError.__init__(self, "not such a number")
        self.value = value


class InvalidPolicy(WorkError):
    """A value is no policy, or a task that is picked cannot make a step."""

    def __init__(self, value):
        WorkError.__init__(self, "not a policy, or not a task that makes a step now")
        self.value = value


class InvalidLog(WorkError):
    """A list is no log; index is that of the first wrong item."""

    def __init__(self, index):
        WorkError.__init__(self, f"not such a log: item {index}")
        self.index = index


class InvalidText(WorkError):
    """A value is not such a text; line is the index of a line without a form, or None."""

    def __init__(self, line):
        WorkError.__init__(self, f"not such a text: line {line}")
        self.line = line


class InvalidCommand(WorkError):
    """A value is not a command of a console."""

    def __init__(self, value):
        WorkError.__init__(self, "not a command")
        self.value = value


class UnknownTask(KeyError):
    """There is no task with this key."""

    def __init__(self, key):
        KeyError.__init__(self, "no such task")
        self.key = key


class NotHeld(LookupError):
    """The user has no handle for this key."""

    def __init__(self, key):
        LookupError.__init__(self, "no such handle")
        self.key = key


class LeaseLost(RuntimeError):
    """The worker has no lease, or has lost it."""

    def __init__(self, worker):
        RuntimeError.__init__(self, "no lease")
        self.worker = worker


class LimitExceeded(OverflowError):
    """There would be more than the limit allows."""

    def __init__(self, limit):
        OverflowError.__init__(self, f"more than {limit}")
        self.limit = limit
