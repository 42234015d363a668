"""What the instructions of a task do to the task itself."""

from wantedwork.expressions import evaluate
from wantedwork.instructions import index_behind
from wantedwork.worlds import endings_of, next_instruction


def act(by_key, task):
    """Execute the next instruction of an unfinished task, or end it; all tasks it is tied to are given by key."""
    instruction = next_instruction(task)
    if instruction is None:
        _end(task, "done", _value(task, task.plan.result))
        return
    action = ACTIONS[instruction[0]]
    skipped = action(by_key, task, instruction)
    task.at = index_behind(task.plan.body, task.at, skipped)


def called_key(task, instruction):
    """Return the key of the task that a call is for."""
    _, _, plan, expressions = instruction
    return plan, tuple([_value(task, expression) for expression in expressions])


def _value(task, expression):
    return evaluate(expression, task.worth, task.reasons)


def _end(task, ending, outcome):
    task.ending = ending
    task.outcome = outcome
    task.ties = {}


def _lose(task, variable):
    """Take a variable's value, reason and tie away."""
    task.worth.pop(variable, None)
    task.reasons.pop(variable, None)
    task.ties.pop(variable, None)


def _learn(by_key, task, variable):
    """Give a variable the result or the reason of the task it is tied to."""
    other = by_key[task.ties[variable]]
    if other.ending == "done":
        task.worth[variable] = other.outcome
    else:
        task.reasons[variable] = other.outcome


def _untie(task, variables):
    for variable in variables:
        task.ties.pop(variable, None)


# Each action executes an instruction of a task, and returns whether its block is skipped.


def _work(by_key, task, instruction):
    return False


def _set(by_key, task, instruction):
    _, variable, expression = instruction
    value = _value(task, expression)
    _lose(task, variable)
    task.worth[variable] = value
    return False


def _fail(by_key, task, instruction):
    _end(task, "failed", _value(task, instruction[1]))
    return False


def _call(by_key, task, instruction):
    variable = instruction[1]
    key = called_key(task, instruction)
    _lose(task, variable)
    task.ties[variable] = key
    return False


def _wait(by_key, task, instruction):
    _, number, variables = instruction
    endings = endings_of(by_key, task, variables)
    if endings.count("done") < number:
        first_failed = variables[endings.index("failed")]
        _end(task, "failed", by_key[task.ties[first_failed]].outcome)
        return False
    for variable, ending in zip(variables, endings):
        if ending == "done":
            _learn(by_key, task, variable)
    _untie(task, variables)
    return False


def _catch(by_key, task, instruction):
    variables = instruction[1]
    for variable in variables:
        _learn(by_key, task, variable)
    _untie(task, variables)
    return False


def _drop(by_key, task, instruction):
    _untie(task, [instruction[1]])
    return False


def _note(by_key, task, instruction):
    task.noted.append(instruction[1])
    return False


def _enter(by_key, task, instruction):
    return _value(task, instruction[1]) == 0


ACTIONS = {
    "work": _work,
    "set": _set,
    "fail": _fail,
    "call": _call,
    "wait": _wait,
    "catch": _catch,
    "drop": _drop,
    "effect": _note,
    "if": _enter,
    "while": _enter,
}
