"""The world of a hub: its tasks, and all else that deeds change."""

from wantedwork.errors import LimitExceeded, UnknownTask
from wantedwork.words import has_key_form

MOST_TASKS = 500
HIGHEST_URGENCY = 9


class Task:
    """A task: where it stands in its plan, what its variables are, and which users hold it."""

    def __init__(self, number, key, plan):
        self.number = number
        self.key = key
        self.plan = plan
        # The urgencies of the handles, by the users.
        self.handed = {}
        # The index of the next instruction, and how many steps were made.
        self.at = 0
        self.moves = 0
        # "done" or "failed" when it is over, and its result or reason.
        self.ending = ""
        self.outcome = None
        self.paid = 0
        self.noted = []
        # The values of arguments and variables, the reasons of variables, the keys they are tied to.
        self.worth = dict(zip(plan.arguments, key[1]))
        self.reasons = {}
        self.ties = {}


class World:
    """All that deeds change on a hub, in one object, so that a trial can put it back."""

    def __init__(self, program, longest_rest):
        self.source = program
        self.longest_rest = longest_rest
        # The tasks by their keys, in the order of their numbers, and how many were ever created.
        self.by_key = {}
        self.created = 0
        self.now = 0
        # The rests that are not 0.
        self.rests = {}
        self.told = []
        self.charged = 0
        # What each user bears, the house being None: numerators and denominators.
        self.borne = {}
        self.deeds = []
        # What is known of wanted tasks, until something changes that.
        self.survey = None


def can_have(program, value):
    """Tell whether any value is the key of a task that a program can have."""
    if not has_key_form(value) or value[0] not in program.names:
        return False
    return len(value[1]) == len(program[value[0]].arguments)


def has_task(world, value):
    """Tell whether any value is the key of a task."""
    # Python calls True equal to 1, so that looking the value up is not enough.
    return has_key_form(value) and value in world.by_key


def known_task(world, key):
    """Return the task with a key; raise UnknownTask if there is none."""
    if not has_task(world, key):
        raise UnknownTask(key)
    return world.by_key[key]


def lists_unfinished(world, value):
    """Tell whether any value is a list of keys of unfinished tasks."""
    if not isinstance(value, list):
        return False
    return all([has_task(world, key) and world.by_key[key].ending == "" for key in value])


def are_different(keys):
    """Tell whether no two of some keys are the same."""
    return len(set(keys)) == len(keys)


def task_with(world, key):
    """Return the task with a key, which is created if there is none; raise LimitExceeded without room."""
    if key not in world.by_key:
        if len(world.by_key) == MOST_TASKS:
            raise LimitExceeded(MOST_TASKS)
        create_task(world, key, world.source[key[0]])
    return world.by_key[key]


def create_task(world, key, plan):
    """Create the task with a key."""
    world.by_key[key] = Task(world.created, key, plan)
    world.created += 1


def held_by(world, task):
    """Return the keys of the different tasks that a task holds, by their numbers."""
    numbered = {world.by_key[key].number: key for key in task.ties.values()}
    return [numbered[number] for number in sorted(numbered)]


def holders_of(world):
    """Return a dict from all keys to the lists of the keys of the tasks that hold each one."""
    holders = {held: [] for held in world.by_key}
    for task in world.by_key.values():
        for held in task.ties.values():
            holders[held].append(task.key)
    return holders


def next_instruction(task):
    """Return the instruction that a task executes in its next step, None if none is left."""
    body = task.plan.body
    return body[task.at] if task.at < len(body) else None


def endings_of(by_key, task, variables):
    """Return for each variable how the task it is tied to has ended, "" if it has not, or if there is none."""
    keys = [task.ties.get(variable) for variable in variables]
    return ["" if key is None else by_key[key].ending for key in keys]


def is_waiting(world, task):
    """Tell whether an unfinished task makes no step before others are over."""
    instruction = next_instruction(task)
    if instruction is None:
        return False
    if instruction[0] == "wait":
        endings = endings_of(world.by_key, task, instruction[2])
        return "" in endings and endings.count("done") < instruction[1]
    return instruction[0] == "catch" and "" in endings_of(world.by_key, task, instruction[1])


def copied_task(task):
    """Return an independent copy of a task."""
    copied = Task(task.number, task.key, task.plan)
    copied.handed = {**task.handed}
    copied.at = task.at
    copied.moves = task.moves
    copied.ending = task.ending
    copied.outcome = task.outcome
    copied.paid = task.paid
    copied.noted = list(task.noted)
    copied.worth = {**task.worth}
    copied.reasons = {**task.reasons}
    copied.ties = {**task.ties}
    return copied


def copied_world(world):
    """Return an independent copy of a world."""
    copied = World(world.source, world.longest_rest)
    copied.by_key = {key: copied_task(world.by_key[key]) for key in world.by_key}
    copied.created = world.created
    copied.now = world.now
    copied.rests = {key: world.rests[key] for key in world.rests}
    copied.told = list(world.told)
    copied.charged = world.charged
    copied.borne = {**world.borne}
    copied.deeds = list(world.deeds)
    return copied
