"""Hubs: tasks, the users that hold them, and the ticks at which they make steps."""

from wantedwork.costs import ordered_shares
from wantedwork.errors import (
    InvalidKey,
    InvalidName,
    InvalidNumber,
    InvalidPolicy,
    InvalidProgram,
    NotHeld,
)
from wantedwork.plans import Program
from wantedwork.steps import make_tick
from wantedwork.surveys import selected, surveyed
from wantedwork.trials import Trial
from wantedwork.words import is_integer, is_word
from wantedwork.worlds import (
    HIGHEST_URGENCY,
    World,
    can_have,
    copied_world,
    has_task,
    held_by,
    is_waiting,
    known_task,
    task_with,
)

LONGEST_PATIENCE = 1000
MOST_TICKS = 10000


def check_policy(value):
    """Raise InvalidPolicy for any value that is no policy."""
    if not isinstance(value, str) or value not in Hub.POLICIES:
        raise InvalidPolicy(value)


class Hub:
    """Tasks of a program, which make steps only while they are wanted."""

    POLICIES = ("oldest", "newest", "urgent", "fair")

    def __init__(self, program, *, patience=10):
        if not isinstance(program, Program):
            raise InvalidProgram(None)
        if not is_integer(patience, 0, LONGEST_PATIENCE):
            raise InvalidNumber(patience)
        self._program = program
        self._patience = patience
        self._world = World(program, patience)

    @property
    def program(self):
        """The program."""
        return self._program

    @property
    def patience(self):
        """How many ticks a paused task rests before it is forgotten."""
        return self._patience

    @property
    def clock(self):
        """The number of ticks."""
        return self._world.now

    @property
    def tasks(self):
        """The list of the keys of all tasks, by their numbers."""
        return list(self._world.by_key)

    @property
    def users(self):
        """The ascending list of the users with handles."""
        return sorted({user for task in self._world.by_key.values() for user in task.handed})

    @property
    def effects(self):
        """The list of all told effects, tuples (key, text), in their order."""
        return list(self._world.told)

    @property
    def cost(self):
        """The sum of all charged costs."""
        return self._world.charged

    @property
    def shares(self):
        """A dict from the users that bear some cost, at last None for the house, to fractions."""
        return ordered_shares(self._world.borne)

    @property
    def log(self):
        """The list of all deeds, in their order."""
        return list(self._world.deeds)

    def __len__(self):
        return len(self._world.by_key)

    def __contains__(self, value):
        return has_task(self._world, value)

    def __eq__(self, other):
        return (
            isinstance(other, Hub)
            and self._program == other._program
            and self._patience == other._patience
            and self._world.deeds == other._world.deeds
        )

    def _is_held(self, user, key):
        return key in self and user in self._world.by_key[key].handed

    def ask(self, user, plan, *arguments, urgency=0):
        """Give a user a handle for a task, which is created if there is none; return its key."""
        if not is_word(user):
            raise InvalidName(user)
        key = (plan, arguments)
        if not can_have(self._program, key):
            raise InvalidKey(key)
        if not is_integer(urgency, 0, HIGHEST_URGENCY):
            raise InvalidNumber(urgency)
        task = task_with(self._world, key)
        task.handed[user] = urgency
        self._world.survey = None
        self._world.deeds.append(("ask", user, plan, arguments, urgency))
        return key

    def drop(self, user, key):
        """Take the handle of a user for a task away."""
        if not is_word(user):
            raise InvalidName(user)
        if not self._is_held(user, key):
            raise NotHeld(key)
        task = known_task(self._world, key)
        del task.handed[user]
        self._world.survey = None
        self._world.deeds.append(("drop", user, task.key))

    def pass_on(self, user, other, key):
        """Give the handle of a user for a task to another user."""
        for name in (user, other):
            if not is_word(name):
                raise InvalidName(name)
        if not self._is_held(user, key):
            raise NotHeld(key)
        task = known_task(self._world, key)
        task.handed[other] = task.handed.pop(user)
        self._world.survey = None
        self._world.deeds.append(("pass", user, other, task.key))

    def handles(self, user):
        """Return a dict from the keys that a user holds, by the numbers of the tasks, to urgencies."""
        if not is_word(user):
            return {}
        return {key: task.handed[user] for key, task in self._world.by_key.items() if user in task.handed}

    def state(self, key):
        """Return "new", "ready", "waiting", "done" or "failed"."""
        task = known_task(self._world, key)
        if task.ending != "":
            return task.ending
        if task.moves == 0:
            return "new"
        return "waiting" if is_waiting(self._world, task) else "ready"

    def result_of(self, key):
        """Return the result of a task that is done, otherwise None."""
        task = known_task(self._world, key)
        return task.outcome if task.ending == "done" else None

    def reason_of(self, key):
        """Return the reason of a task that has failed, otherwise None."""
        task = known_task(self._world, key)
        return task.outcome if task.ending == "failed" else None

    def holds(self, key):
        """Return the list of the tasks that a task holds, by their numbers."""
        return held_by(self._world, known_task(self._world, key))

    def steps(self, key):
        """Return how many steps a task has made."""
        return known_task(self._world, key).moves

    def work_of(self, key):
        """Return the cost that was charged for a task since it was created."""
        return known_task(self._world, key).paid

    def rest(self, key):
        """Return the rest of a task."""
        return self._world.rests.get(known_task(self._world, key).key, 0)

    def tick(self, policy="oldest"):
        """Make a tick; return the key of the task that made a step, or None."""
        check_policy(policy)
        key = selected(self._world, policy)
        make_tick(self._world, key)
        self._world.deeds.append(("tick", policy))
        return key

    def ticks(self, policy="oldest"):
        """Yield the results of ticks until one is None."""
        key = self.tick(policy)
        while key is not None:
            yield key
            key = self.tick(policy)

    def run(self, most, policy="oldest"):
        """Make ticks until one returns None, but at most so many; return how many steps were made."""
        if not is_integer(most, 0, MOST_TICKS):
            raise InvalidNumber(most)
        check_policy(policy)
        made = 0
        while made < most and self.tick(policy) is not None:
            made += 1
        return made

    def pick(self, key):
        """Make a tick at which a task makes a step that is wanted and can go on."""
        task = known_task(self._world, key)
        if task.key not in surveyed(self._world).able:
            raise InvalidPolicy(key)
        make_tick(self._world, task.key)
        self._world.deeds.append(("pick", task.key))

    def trial(self):
        """Return an object for a with statement, at whose end the hub is as it was at its beginning."""
        return Trial(self)

    def copy(self):
        """Return an independent equal hub."""
        copied = Hub(self._program, patience=self._patience)
        copied._world = copied_world(self._world)
        return copied
