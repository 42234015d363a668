"""Which tasks are wanted, why they are, and why others are not."""

from wantedwork.chains import chain_to
from wantedwork.surveys import must_go_on, reaching_users, surveyed
from wantedwork.words import is_word
from wantedwork.worlds import are_different, known_task, lists_unfinished


def wanted(hub):
    """Return the list of the wanted tasks, by their numbers."""
    urgencies = surveyed(hub._world).urgencies
    return [key for key in hub.tasks if key in urgencies]


def paused(hub):
    """Return the list of the paused tasks, by their numbers."""
    return list(surveyed(hub._world).paused_keys)


def is_wanted(hub, key):
    """Tell whether any value is the key of a wanted task."""
    return key in hub and key in surveyed(hub._world).urgencies


def users_of(hub, key):
    """Return the ascending list of the users that reach a task, or have handles for it if it is over."""
    task = known_task(hub._world, key)
    if task.ending != "":
        return sorted(task.handed)
    return reaching_users(hub._world, task.key)


def chain(hub, key):
    """Return a list (first, key, ..) that shows that a task is wanted, or None."""
    task = known_task(hub._world, key)
    if task.ending != "":
        return None
    return chain_to(hub._world, task.key, _firsts(hub._world))


def _firsts(world):
    """Return the firsts of chains, by the keys of the tasks that are wanted whoever holds them."""
    firsts = {}
    for key, task in world.by_key.items():
        if len(task.handed) > 0:
            firsts[key] = min(task.handed)
        elif must_go_on(task):
            firsts[key] = None
    return firsts


def is_chain(hub, key, value):
    """Tell whether any value is a list that shows that any value is the key of a wanted task."""
    if key not in hub or not isinstance(value, list) or len(value) < 2:
        return False
    keys = value[1:]
    if not lists_unfinished(hub._world, keys) or keys[-1] != key:
        return False
    tasks = [hub._world.by_key[each] for each in keys]
    if not all([held.key in list(holder.ties.values()) for holder, held in zip(tasks, tasks[1:])]):
        return False
    return _is_first(value[0], tasks[0])


def _is_first(value, task):
    """Tell whether any value is a user that holds a task, or None if it must finish and has begun."""
    if value is None:
        return must_go_on(task)
    return is_word(value) and value in task.handed


def is_cut(hub, value):
    """Tell whether any value is a list of tasks that shows that none of them is wanted."""
    if not lists_unfinished(hub._world, value) or not are_different(value):
        return False
    members = {key: True for key in value}
    for key, task in hub._world.by_key.items():
        if key not in members:
            if not all([held not in members for held in task.ties.values()]):
                return False
        elif len(task.handed) > 0 or must_go_on(task):
            return False
    return True
