"""Steps of tasks, and ticks."""

from wantedwork.costs import charge
from wantedwork.expressions import evaluate
from wantedwork.instructions import index_behind
from wantedwork.surveys import surveyed
from wantedwork.worlds import endings_of, is_waiting, task_with


def make_tick(world, chosen):
    """Make a tick at which the task with a key, or none, makes a step; LimitExceeded changes nothing."""
    if chosen is not None:
        _make_step(world, world.by_key[chosen])
    world.now += 1
    paused = surveyed(world).paused_keys
    world.rests = {key: world.rests.get(key, 0) + 1 for key in paused}
    _forget(world)


def _forget(world):
    """Forget the tasks that have rested for too long."""
    forgotten = [key for key in world.rests if world.rests[key] > world.longest_rest]
    for key in forgotten:
        del world.rests[key]
        del world.by_key[key]
        world.survey = None


def _make_step(world, task):
    held = {**task.ties}
    if task.at == len(task.plan.body):
        _end(world, task, "done", _value(task, task.plan.result))
    else:
        _execute(world, task)
    task.moves += 1
    if task.ending != "" or task.ties != held:
        world.survey = None
    elif is_waiting(world, task):
        # Nothing else in the survey has changed.
        able = surveyed(world).able
        able.pop(task.key, None)


def _execute(world, task):
    instruction = task.plan.body[task.at]
    action = ACTIONS[instruction[0]]
    skipped = action(world, task, instruction)
    task.at = index_behind(task.plan.body, task.at, skipped)


def _value(task, expression):
    return evaluate(expression, task.worth, task.reasons)


def _end(world, task, ending, outcome):
    """End a task."""
    task.ending = ending
    task.outcome = outcome
    task.ties = {}
    if ending == "done":
        world.told.extend([(task.key, text) for text in task.noted])


def _lose(task, variable):
    """Take a variable's value, reason and tie away."""
    task.worth.pop(variable, None)
    task.reasons.pop(variable, None)
    task.ties.pop(variable, None)


def _learn(world, task, variable):
    """Give a variable the result or the reason of the task it is tied to."""
    other = world.by_key[task.ties[variable]]
    if other.ending == "done":
        task.worth[variable] = other.outcome
    else:
        task.reasons[variable] = other.outcome


def _untie(task, variables):
    for variable in variables:
        task.ties.pop(variable, None)


# Each action executes an instruction of a task, and returns whether its block is skipped.


def _work(world, task, instruction):
    charge(world, task, instruction[1])
    return False


def _set(world, task, instruction):
    _, variable, expression = instruction
    value = _value(task, expression)
    _lose(task, variable)
    task.worth[variable] = value
    return False


def _fail(world, task, instruction):
    _end(world, task, "failed", _value(task, instruction[1]))
    return False


def _call(world, task, instruction):
    _, variable, plan, expressions = instruction
    key = (plan, tuple([_value(task, expression) for expression in expressions]))
    task_with(world, key)
    _lose(task, variable)
    task.ties[variable] = key
    return False


def _wait(world, task, instruction):
    _, number, variables = instruction
    endings = endings_of(world, task, variables)
    if endings.count("done") < number:
        first_failed = variables[endings.index("failed")]
        _end(world, task, "failed", world.by_key[task.ties[first_failed]].outcome)
        return False
    for variable, ending in zip(variables, endings):
        if ending == "done":
            _learn(world, task, variable)
    _untie(task, variables)
    return False


def _catch(world, task, instruction):
    variables = instruction[1]
    for variable in variables:
        _learn(world, task, variable)
    _untie(task, variables)
    return False


def _drop(world, task, instruction):
    _untie(task, [instruction[1]])
    return False


def _note(world, task, instruction):
    task.noted.append(instruction[1])
    return False


def _enter(world, task, instruction):
    return _value(task, instruction[1]) == 0


ACTIONS = {
    "work": _work,
    "set": _set,
    "fail": _fail,
    "call": _call,
    "wait": _wait,
    "catch": _catch,
    "drop": _drop,
    "effect": _note,
    "if": _enter,
    "while": _enter,
}
