"""How urgent tasks are, and why they are not less or more."""

from wantedwork.chains import chain_to
from wantedwork.surveys import surveyed
from wantedwork.words import is_integer
from wantedwork.worlds import HIGHEST_URGENCY, known_task, lists_unfinished


def urgency(hub, key):
    """Return the greatest urgency of a handle by which a user reaches an unfinished task, otherwise -1."""
    task = known_task(hub._world, key)
    # A task that is over is not in the survey, neither is a paused one.
    return surveyed(hub._world).urgencies.get(task.key, -1)


def urgency_chain(hub, key):
    """Return a list (user, key, ..) that shows the urgency of a task, None if it is -1."""
    # No handle has the urgency -1, so that there is no first then.
    greatest = urgency(hub, key)
    firsts = {}
    for at, task in hub._world.by_key.items():
        users = [user for user in sorted(task.handed) if task.handed[user] == greatest]
        if len(users) > 0:
            firsts[at] = users[0]
    return chain_to(hub._world, key, firsts)


def are_bounds(hub, value):
    """Tell whether any value is a dict of urgencies that no unfinished task can exceed."""
    tasks = [task for task in hub._world.by_key.values() if task.ending == ""]
    if not isinstance(value, dict) or not lists_unfinished(hub._world, list(value)) or len(value) != len(tasks):
        return False
    if not all([is_integer(bound, -1, HIGHEST_URGENCY) for bound in value.values()]):
        return False
    return all([_is_bounded(task, value) for task in tasks])


def _is_bounded(task, bounds):
    """Tell whether neither the handles of an unfinished task nor what it passes on exceed the bounds."""
    if not all([handed <= bounds[task.key] for handed in task.handed.values()]):
        return False
    # A held task that is over has no bound.
    return all([bounds[task.key] <= bounds.get(held, HIGHEST_URGENCY) for held in task.ties.values()])
