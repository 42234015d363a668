"""Plans of tasks, and programs of plans."""

from wantedwork.errors import InvalidName, InvalidPlan, InvalidProgram
from wantedwork.expressions import is_expression
from wantedwork.instructions import Scope, is_instruction
from wantedwork.words import MOST_ARGUMENTS, is_word

MOST_INSTRUCTIONS = 24
MOST_PLANS = 20


def _are_arguments(value):
    if not isinstance(value, (list, tuple)) or len(value) > MOST_ARGUMENTS:
        return False
    return all([is_word(word) for word in value]) and len(set(value)) == len(value)


def _checked_scope(arguments, body):
    """Return the scope behind a body; raise InvalidPlan for its first invalid instruction."""
    scope = Scope(arguments, len(body))
    for at, instruction in enumerate(body):
        scope.enter(at)
        if not is_instruction(instruction, scope):
            raise InvalidPlan(at)
        scope.leave(at, instruction)
    return scope


class Plan:
    """What the tasks of a plan do: a body of instructions and a result over some arguments."""

    def __init__(self, arguments, body, result, *, must_finish=False):
        if not _are_arguments(arguments):
            raise InvalidPlan("arguments")
        if not isinstance(body, (list, tuple)) or len(body) > MOST_INSTRUCTIONS:
            raise InvalidPlan("body")
        scope = _checked_scope(tuple(arguments), tuple(body))
        if not is_expression(result, scope.given, scope.named):
            raise InvalidPlan("result")
        if not isinstance(must_finish, bool):
            raise InvalidPlan("must_finish")
        self._arguments = tuple(arguments)
        self._body = tuple(body)
        self._result = result
        self._must_finish = must_finish

    @property
    def arguments(self):
        """The tuple of the arguments."""
        return self._arguments

    @property
    def body(self):
        """The tuple of the instructions."""
        return self._body

    @property
    def result(self):
        """The expression of the result."""
        return self._result

    @property
    def must_finish(self):
        """Whether a task that has begun is wanted until it is over."""
        return self._must_finish

    @property
    def is_determinate(self):
        """Whether each wait is for all its variables."""
        waits = [instruction for instruction in self._body if instruction[0] == "wait"]
        return all([wait[1] == len(wait[2]) for wait in waits])

    def __eq__(self, other):
        return (
            isinstance(other, Plan)
            and self._arguments == other._arguments
            and self._body == other._body
            and self._result == other._result
            and self._must_finish == other._must_finish
        )


def _are_plans(value):
    if not isinstance(value, dict) or not 1 <= len(value) <= MOST_PLANS:
        return False
    return all([is_word(name) and isinstance(value[name], Plan) for name in value])


def _calls_fit(plan, plans):
    """Tell whether each call of a plan is of one of the plans, with as many arguments as it has."""
    calls = [instruction for instruction in plan.body if instruction[0] == "call"]
    return all([call[2] in plans and len(plans[call[2]].arguments) == len(call[3]) for call in calls])


class Program:
    """Plans by their names."""

    def __init__(self, plans):
        if not _are_plans(plans):
            raise InvalidProgram(None)
        for name in sorted(plans):
            if not _calls_fit(plans[name], plans):
                raise InvalidProgram(name)
        self._plans = {name: plans[name] for name in sorted(plans)}

    @property
    def names(self):
        """The ascending list of the names of the plans."""
        return list(self._plans)

    @property
    def is_determinate(self):
        """Whether all plans are determinate."""
        return all([plan.is_determinate for plan in self._plans.values()])

    def __getitem__(self, name):
        if not is_word(name) or name not in self._plans:
            raise InvalidName(name)
        return self._plans[name]

    def __iter__(self):
        raise TypeError("a program is not iterated over")

    def __or__(self, other):
        if not isinstance(other, Program):
            return NotImplemented
        for name in self._plans:
            if name in other._plans and self._plans[name] != other._plans[name]:
                raise InvalidName(name)
        return Program({**self._plans, **other._plans})

    def __eq__(self, other):
        return isinstance(other, Program) and self._plans == other._plans

    def __len__(self):
        return len(self._plans)
