"""Instructions: which values are some, and which one is executed behind which."""

from wantedwork.expressions import is_expression
from wantedwork.words import is_effect, is_integer, is_word, name_of

BLOCKS = ("if", "while")
MOST_EXPRESSIONS = 3
MOST_VARIABLES = 6
HIGHEST_COST = 1000


class Scope:
    """What an instruction may name, and how much room it has for a block."""

    def __init__(self, arguments, length):
        self.given = arguments
        self.named = {}
        self.called = {}
        self.ends = [length]
        self.room = 0

    def enter(self, at):
        """Come to the instruction at an index."""
        # A block ends within the blocks around it, so the nearest end is that of the innermost one.
        self.room = min([end for end in self.ends if end > at]) - at - 1

    def leave(self, at, instruction):
        """Note what a valid instruction at an index names and begins."""
        name = instruction[0]
        if name in ("set", "call"):
            self.named[instruction[1]] = True
        if name == "call":
            self.called[instruction[1]] = True
        if name in BLOCKS:
            self.ends.append(end_of_block(instruction, at))


def end_of_block(instruction, at):
    """Return the index behind the block of an if or a while at an index."""
    return at + 1 + instruction[2]


def _is_variable(value, scope):
    return is_word(value) and value not in scope.given


def _is_called(value, scope):
    return isinstance(value, str) and value in scope.called


def _are_called(value, scope):
    if not isinstance(value, tuple) or not 1 <= len(value) <= MOST_VARIABLES:
        return False
    if not all([_is_called(variable, scope) for variable in value]):
        return False
    return len(set(value)) == len(value)


def _is_worth(value, scope):
    return is_expression(value, scope.given, scope.named)


def _is_work(instruction, scope):
    return is_integer(instruction[1], 1, HIGHEST_COST)


def _is_set(instruction, scope):
    return _is_variable(instruction[1], scope) and _is_worth(instruction[2], scope)


def _is_fail(instruction, scope):
    return _is_worth(instruction[1], scope)


def _is_call(instruction, scope):
    _, variable, plan, expressions = instruction
    if not _is_variable(variable, scope) or not is_word(plan):
        return False
    if not isinstance(expressions, tuple) or len(expressions) > MOST_EXPRESSIONS:
        return False
    return all([_is_worth(expression, scope) for expression in expressions])


def _is_wait(instruction, scope):
    _, number, variables = instruction
    return _are_called(variables, scope) and is_integer(number, 1, len(variables))


def _is_catch(instruction, scope):
    return _are_called(instruction[1], scope)


def _is_drop(instruction, scope):
    return _is_called(instruction[1], scope)


def _is_say(instruction, scope):
    return is_effect(instruction[1])


def _is_block(instruction, scope):
    return _is_worth(instruction[1], scope) and is_integer(instruction[2], 1, scope.room)


SIZES = {"work": 2, "set": 3, "fail": 2, "call": 4, "wait": 3, "catch": 2, "drop": 2, "effect": 2, "if": 3, "while": 3}
CHECKS = {
    "work": _is_work,
    "set": _is_set,
    "fail": _is_fail,
    "call": _is_call,
    "wait": _is_wait,
    "catch": _is_catch,
    "drop": _is_drop,
    "effect": _is_say,
    "if": _is_block,
    "while": _is_block,
}


def is_instruction(value, scope):
    """Tell whether any value is an instruction that may stand where the scope is."""
    name = name_of(value)
    if name not in CHECKS or len(value) != SIZES[name]:
        return False
    check = CHECKS[name]
    return check(value, scope)


def index_behind(body, at, skipped):
    """Return the index of the instruction executed behind the one at an index, its block skipped or not."""
    end = end_of_block(body[at], at) if skipped else at + 1
    for start in reversed(range(at)):
        if body[start][0] == "while" and end_of_block(body[start], start) == end:
            return start
    return end
