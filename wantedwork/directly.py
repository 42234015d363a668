"""Outcomes of tasks of determinate programs, computed without a hub."""

from wantedwork.acting import act
from wantedwork.errors import InvalidKey, InvalidProgram, LimitExceeded
from wantedwork.worlds import MOST_TASKS, Task, can_have, next_instruction

MOST_EXECUTED = 100000


class Pending:
    """A task that has begun to be computed, with what it still has to look at."""

    def __init__(self, task):
        self.task = task
        # The variables of its wait or catch that were not looked at yet.
        self.unseen = []


class Computing:
    """Tasks that are computed, each one on behalf of the one below it in the pile."""

    def __init__(self, program):
        self.source = program
        # All tasks that have begun, by their keys, in the order in which they began.
        self.begun = {}
        self.pile = []
        self.executed = 0


def outcome_of(program, plan, *arguments):
    """Return ("done", result) or ("failed", reason), or None if the computing stops without an outcome."""
    begun = _computed(program, plan, arguments)
    if begun is None:
        return None
    task = begun[(plan, arguments)]
    return task.ending, task.outcome


def needed(program, plan, *arguments):
    """Return the list of the keys of all computed tasks, as they began, or None without an outcome."""
    begun = _computed(program, plan, arguments)
    return None if begun is None else list(begun)


def _computed(program, plan, arguments):
    """Return a dict of all tasks that were computed, or None if the computing stops."""
    for name in program.names:
        if not program[name].is_determinate:
            raise InvalidProgram(name)
    key = (plan, arguments)
    if not can_have(program, key):
        raise InvalidKey(key)
    computing = Computing(program)
    _begin(computing, key)
    while len(computing.pile) > 0:
        if not _go_on(computing, computing.pile[-1]):
            return None
    return computing.begun


def _begin(computing, key):
    """Begin to compute a task."""
    if len(computing.begun) == MOST_TASKS:
        raise LimitExceeded(MOST_TASKS)
    task = Task(len(computing.begun), key, computing.source[key[0]])
    computing.begun[key] = task
    pending = Pending(task)
    computing.pile.append(pending)
    _arrive(computing, pending)


def _arrive(computing, pending):
    """Count the next instruction of a task, and see which variables it has to look at first."""
    instruction = next_instruction(pending.task)
    if instruction is None:
        return
    if computing.executed == MOST_EXECUTED:
        raise LimitExceeded(MOST_EXECUTED)
    computing.executed += 1
    if instruction[0] in ("wait", "catch"):
        pending.unseen = list(instruction[-1])


def _go_on(computing, pending):
    """Look at a variable, or else execute an instruction; return False if the computing stops."""
    task = pending.task
    if len(pending.unseen) > 0:
        return _look(computing, task.ties.get(pending.unseen.pop(0)))
    act(computing.begun, task)
    if task.ending == "":
        _arrive(computing, pending)
    else:
        computing.pile.pop()
    return True


def _look(computing, key):
    """Begin to compute the task with a key, unless it is over; return False if there is none or it has begun."""
    if key is None:
        return False
    if key not in computing.begun:
        _begin(computing, key)
        return True
    return computing.begun[key].ending != ""
