"""Which tasks are stuck, because what they wait for cannot come."""

from wantedwork.surveys import surveyed
from wantedwork.worlds import (
    are_different,
    endings_of,
    holders_of,
    is_waiting,
    lists_unfinished,
    next_instruction,
)


def stuck(hub):
    """Return the list of the stuck tasks, by their numbers."""
    urgencies = surveyed(hub._world).urgencies
    free = _free_keys(hub._world)
    return [key for key in hub.tasks if key in urgencies and key not in free]


def is_stuck_set(hub, value):
    """Tell whether any value is a list of waiting tasks none of which can go on before another one of them."""
    world = hub._world
    if not lists_unfinished(world, value) or len(value) == 0 or not are_different(value):
        return False
    members = {key: True for key in value}
    others = {}
    for key, task in world.by_key.items():
        if task.ending == "" and key not in members:
            others[key] = True
    tasks = [world.by_key[key] for key in value]
    return all([is_waiting(world, task) and not _is_freed(world, task, others) for task in tasks])


def ring(hub):
    """Return a list of stuck tasks each of which waits for the next one, and the last for the first, or None."""
    onward = _onward(_awaited(hub._world, stuck(hub)))
    if len(onward) == 0:
        return None
    key = list(onward)[0]
    # Behind so many moves, the way leads around in a ring, wherever it began.
    for _ in range(len(onward)):
        key = onward[key]
    keys = [key]
    while onward[keys[-1]] != key:
        keys.append(onward[keys[-1]])
    numbers = [hub._world.by_key[each].number for each in keys]
    first = numbers.index(min(numbers))
    return keys[first:] + keys[:first]


def _free_keys(world):
    """Return a dict whose keys are those of the free tasks."""
    holders = holders_of(world)
    free = {}
    for key, task in world.by_key.items():
        if task.ending == "" and not is_waiting(world, task):
            free[key] = True
    # What is not free from the start is freed by a task that it holds.
    pile = list(free)
    while len(pile) > 0:
        freed = pile.pop()
        for holder in holders[freed]:
            if holder not in free and _is_freed(world, world.by_key[holder], free):
                free[holder] = True
                pile.append(holder)
    return free


def _is_freed(world, task, free):
    """Tell whether what a waiting task waits for may come if these unfinished tasks may be done."""
    instruction = next_instruction(task)
    variables = instruction[-1]
    hopes = []
    for variable, ending in zip(variables, endings_of(world.by_key, task, variables)):
        hopes.append("done" if task.ties.get(variable) in free else ending)
    # One that may be done is over then, as one that has failed is.
    if "" not in hopes:
        return True
    return instruction[0] == "wait" and hopes.count("done") >= instruction[1]


def _awaited(world, keys):
    """Return a dict from the keys of stuck tasks to lists of the stuck ones that each of them waits for."""
    awaited = {key: [] for key in keys}
    for key in keys:
        task = world.by_key[key]
        for variable in next_instruction(task)[-1]:
            if task.ties.get(variable) in awaited:
                awaited[key].append(task.ties[variable])
    return awaited


def _onward(awaited):
    """Return a dict from the keys from which a way leads on without an end to the next ones on such ways."""
    waiting = {key: [] for key in awaited}
    for key in awaited:
        for other in awaited[key]:
            waiting[other].append(key)
    ways = {key: len(awaited[key]) for key in awaited}
    pile = [key for key in awaited if ways[key] == 0]
    while len(pile) > 0:
        ended = pile.pop()
        for key in waiting[ended]:
            ways[key] -= 1
            if ways[key] == 0:
                pile.append(key)
    onward = {}
    for key in awaited:
        if ways[key] > 0:
            onward[key] = [each for each in awaited[key] if ways[each] > 0][0]
    return onward
