"""Slow readings of points 9, 10, 13 and 14, word by word, on the tasks of the slow hub.

Values are compared by how they are written, so that True is never taken for 1.
"""

from model import Model, ModelTask


def task_of(model, value):
    """Return the task of which any value is the key, or None."""
    for task in model.tasks:
        if repr(task.key) == repr(value):
            return task
    return None


def unfinished_of(model, value):
    task = task_of(model, value)
    return None if task is None or task.over() else task


def keys(tasks):
    return [task.key for task in tasks]


def wanted(model):
    found = model.wanted()
    return [task for task in model.tasks if task in found]


def paused(model):
    found = model.wanted()
    return [task for task in model.tasks if task not in found and not task.over()]


def users_of(model, task):
    if task.over():
        return sorted(user for user, key in model.handles if key == task.key)
    return model.users_of(task)


def must_go_on(task):
    return task.plan.must_finish and task.steps > 0


def is_chain(model, key, value):
    if not isinstance(value, list) or len(value) < 2 or repr(value[-1]) != repr(key):
        return False
    tasks = [unfinished_of(model, item) for item in value[1:]]
    if None in tasks:
        return False
    for at in range(len(tasks) - 1):
        if tasks[at + 1] not in model.held(tasks[at]):
            return False
    if value[0] is None:
        return must_go_on(tasks[0])
    return any(repr(user) == repr(value[0]) and held == tasks[0].key for user, held in model.handles)


def is_cut(model, value):
    if not isinstance(value, list):
        return False
    tasks = [unfinished_of(model, item) for item in value]
    if None in tasks:
        return False
    for task in tasks:
        if tasks.count(task) > 1 or must_go_on(task) or task.key in [key for _, key in model.handles]:
            return False
        if [other for other in model.tasks if other not in tasks and task in model.held(other)]:
            return False
    return True


def are_bounds(model, value):
    if not isinstance(value, dict):
        return False
    tasks = [unfinished_of(model, key) for key in value]
    if None in tasks or len(tasks) != len([task for task in model.tasks if not task.over()]):
        return False
    if not all(repr(bound) in [str(number) for number in range(-1, 10)] for bound in value.values()):
        return False
    for task in tasks:
        bound = value[task.key]
        if any(model.handles[user, key] > bound for user, key in model.handles if key == task.key):
            return False
        if any(bound > value[other.key] for other in model.held(task) if not other.over()):
            return False
    return True


def awaited(task):
    """Return the keys to which the variables of a waiting task's wait or catch are tied, None for each untied one."""
    return [task.tied.get(variable) for variable in task.next[-1]]


def is_free(model, task, free):
    """Tell whether a task belongs to a set of free ones, if these belong to it."""
    if not model.waiting(task):
        return True
    others = [model.find(key) for key in awaited(task)]
    if all(other is not None and (other.over() or other in free) for other in others):
        return True
    likely = [other for other in others if other is not None and (other.result is not None or other in free)]
    return task.next[0] == "wait" and len(likely) >= task.next[1]


def stuck(model):
    free = []
    for _ in model.tasks:
        free = [task for task in model.tasks if not task.over() and is_free(model, task, free)]
    return [task for task in wanted(model) if task not in free]


def is_stuck_set(model, value):
    if not isinstance(value, list) or not value:
        return False
    tasks = [unfinished_of(model, item) for item in value]
    if None in tasks:
        return False
    for task in tasks:
        if tasks.count(task) > 1 or not model.waiting(task):
            return False
        others = [model.find(key) for key in awaited(task)]
        if not any(other is None or other in tasks for other in others):
            return False
        likely = [other for other in others if other is not None and other not in tasks and other.why is None]
        if task.next[0] == "wait" and task.next[1] <= len(likely):
            return False
    return True


def is_ring(model, value):
    tasks = [task_of(model, item) for item in value]
    if not tasks or any(task not in stuck(model) or tasks.count(task) > 1 for task in tasks):
        return False
    if not all(tasks[at].key in awaited(tasks[at - 1]) for at in range(len(tasks))):
        return False
    return model.tasks.index(tasks[0]) == min(model.tasks.index(task) for task in tasks)


def has_ring(model):
    tasks = stuck(model)
    for start in tasks:
        found = [other for other in tasks if other.key in awaited(start)]
        for task in found:
            found.extend([other for other in tasks if other.key in awaited(task) and other not in found])
        if start in found:
            return True
    return False


class Stopped(Exception):
    """The computing stops without an outcome."""


class Exceeded(Exception):
    """A limit is exceeded, which is told."""


class Direct:
    """Computes tasks one within the other, straight from point 14."""

    def __init__(self, program, most_tasks=500, most_instructions=100000):
        self.program, self.most_tasks, self.most_instructions = program, most_tasks, most_instructions
        self.model, self.executed = Model(program, 0, most_tasks), 0

    def compute(self, key):
        if len(self.model.tasks) == self.most_tasks:
            raise Exceeded(self.most_tasks)
        task = ModelTask(key, self.program[key[0]])
        self.model.tasks.append(task)
        while task.next is not None and not task.over():
            self.executed += 1
            if self.executed > self.most_instructions:
                raise Exceeded(self.most_instructions)
            if task.next[0] in ("wait", "catch"):
                for variable in task.next[-1]:
                    self.look(task.tied.get(variable))
            self.execute(task)
        if not task.over():
            self.model.step(task)

    def look(self, key):
        if key is None:
            raise Stopped
        task = self.model.find(key)
        if task is None:
            self.compute(key)
        elif not task.over():
            raise Stopped

    def execute(self, task):
        if task.next[0] == "call":
            # A call begins nothing yet.
            _, variable, plan, expressions = task.next
            task.tied[variable] = plan, tuple(task.worth(expression) for expression in expressions)
            task.value.pop(variable, None)
            task.reason.pop(variable, None)
            task.next = next(task.walk, None)
        else:
            self.model.step(task)

    def told(self, key):
        """Return the outcome and the keys of all computed tasks, or None, or the name of the limit."""
        try:
            self.compute(key)
        except Stopped:
            return None
        except Exceeded as exceeded:
            return exceeded.args[0]
        task = self.model.find(key)
        outcome = ("failed", task.why) if task.result is None else ("done", task.result)
        return outcome, keys(self.model.tasks)
