"""Which tasks of a world are wanted, how urgently, by which users, and which one a policy selects."""

from wantedwork.worlds import holders_of, is_waiting


class Survey:
    """What follows from handles, ties and endings; it is right until one of them changes."""

    def __init__(self, world):
        # The urgencies of the wanted tasks, -1 of those that no user reaches.
        self.urgencies = _urgencies_of_wanted(world)
        # The wanted tasks that can go on, by their keys.
        self.able = {}
        self.paused_keys = []
        for key, task in world.by_key.items():
            if task.ending == "" and key not in self.urgencies:
                self.paused_keys.append(key)
            elif task.ending == "" and not is_waiting(world, task):
                self.able[key] = task


def surveyed(world):
    """Return the survey of a world, which is made anew only after a change."""
    if world.survey is None:
        world.survey = Survey(world)
    return world.survey


def must_go_on(task):
    """Tell whether an unfinished task is wanted because it has begun something that must be finished."""
    return task.plan.must_finish and task.moves > 0


def _urgency_alone(task):
    """Return the urgency for which a task is wanted whoever holds it, if it is unfinished, or None."""
    if len(task.handed) > 0:
        return max(task.handed.values())
    return -1 if must_go_on(task) else None


def _urgencies_of_wanted(world):
    starts = []
    for key, task in world.by_key.items():
        urgency = _urgency_alone(task)
        if urgency is not None:
            starts.append((-urgency, task.number, key))
    found = {}
    # From the most urgent ones on, a task is first reached with its greatest urgency.
    for negative, _, key in sorted(starts):
        _pass_on(world, key, -negative, found)
    return found


def _pass_on(world, start, urgency, found):
    """Note an urgency for all unfinished tasks from a start on that have none yet."""
    pile = [start]
    while len(pile) > 0:
        key = pile.pop()
        task = world.by_key[key]
        if task.ending == "" and key not in found:
            found[key] = urgency
            pile.extend(list(task.ties.values()))


def reaching_users(world, key):
    """Return the ascending list of the users that reach an unfinished task."""
    holders = holders_of(world)
    above = {}
    pile = [key]
    while len(pile) > 0:
        holder = pile.pop()
        if holder not in above:
            above[holder] = True
            pile.extend(holders[holder])
    return sorted({user for holder in above for user in world.by_key[holder].handed})


def selected(world, policy, taken=()):
    """Return the key of the task that a policy selects among those that are not taken, or None."""
    survey = surveyed(world)
    ranks = []
    for key, task in survey.able.items():
        if key not in taken:
            ranks.append((_rank(policy, task, survey.urgencies[key]), task.number, key))
    return min(ranks)[2] if len(ranks) > 0 else None


def _rank(policy, task, urgency):
    """Return the number by which a policy prefers smaller ones, ahead of the number of the task."""
    if policy == "newest":
        return -task.number
    if policy == "urgent":
        return -urgency
    if policy == "fair":
        return task.moves
    return 0
