"""Expressions: which values are some, and what they are worth."""

from wantedwork.words import MODULUS, is_number

OPERATIONS = ("plus", "minus", "times", "less", "same")
QUESTIONS = ("known", "reason")
DEEPEST = 6


def is_expression(value, arguments, variables, deepest=DEEPEST):
    """Tell whether any value is an expression over these words, nested so deep at most."""
    if isinstance(value, tuple):
        return _is_question(value, variables) or _is_operation(value, arguments, variables, deepest)
    if isinstance(value, str):
        return value in arguments or value in variables
    return is_number(value)


def _is_question(value, variables):
    if len(value) != 2:
        return False
    question, variable = value
    if not isinstance(question, str) or not isinstance(variable, str):
        return False
    return question in QUESTIONS and variable in variables


def _is_operation(value, arguments, variables, deepest):
    if len(value) != 3 or deepest == 1:
        return False
    operation, first, second = value
    if not isinstance(operation, str) or operation not in OPERATIONS:
        return False
    if not is_expression(first, arguments, variables, deepest - 1):
        return False
    return is_expression(second, arguments, variables, deepest - 1)


def evaluate(expression, worth, reasons):
    """Return the value of an expression where words have these values and reasons."""
    if isinstance(expression, str):
        return worth.get(expression, 0)
    if not isinstance(expression, tuple):
        return expression
    if len(expression) == 2:
        question, variable = expression
        return int(variable in worth) if question == "known" else reasons.get(variable, 0)
    operation, left, right = expression
    return _computed(operation, evaluate(left, worth, reasons), evaluate(right, worth, reasons))


def _computed(operation, first, second):
    if operation == "plus":
        return (first + second) % MODULUS
    if operation == "minus":
        return (first - second) % MODULUS
    if operation == "times":
        return first * second % MODULUS
    if operation == "less":
        return int(first < second)
    return int(first == second)
