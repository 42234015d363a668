"""The language of plans: expressions and programs as texts."""

from wantedwork.errors import InvalidPlan, InvalidProgram, InvalidText
from wantedwork.instructions import BLOCKS, end_of_block
from wantedwork.lines import read_form
from wantedwork.plans import Plan, Program
from wantedwork.reading import STRENGTHS, read_expression

SIGNS = {"plus": "+", "minus": "-", "times": "*", "less": "<", "same": "=="}


def format_expression(expression):
    """Return the text of an expression, with the fewest parentheses."""
    return _written(expression, 1)


def _written(expression, least):
    """Return the text of an expression; operations weaker than the least strength get parentheses."""
    if not isinstance(expression, tuple):
        return str(expression)
    if len(expression) == 2:
        return " ".join(expression)
    operation, first, second = expression
    strength = STRENGTHS[operation]
    # The second operand must be stronger, since equally strong ones are taken from left to right.
    text = f"{_written(first, strength)} {SIGNS[operation]} {_written(second, strength + 1)}"
    return f"({text})" if strength < least else text


def parse_expression(text):
    """Return the expression of a text; raise InvalidText(None) for any other value."""
    if not isinstance(text, str):
        raise InvalidText(None)
    return read_expression(text)


def format_program(program):
    """Return the text of a program."""
    lines = []
    for name in program.names:
        lines.extend(_plan_lines(name, program[name]))
    return "\n".join(lines)


def _plan_lines(name, plan):
    first = "must" if plan.must_finish else "plan"
    lines = [" ".join([first, name] + list(plan.arguments))]
    for at, instruction in enumerate(plan.body):
        indent = "  " * (1 + _blocks_around(plan.body, at))
        lines.append(indent + _instruction_text(instruction))
    lines.append(f"result {format_expression(plan.result)}")
    return lines


def _blocks_around(body, at):
    """Return how many blocks the instruction at an index stands in."""
    starts = [start for start in range(at) if body[start][0] in BLOCKS]
    return len([start for start in starts if end_of_block(body[start], start) > at])


def _instruction_text(instruction):
    name, first = instruction[0], instruction[1]
    if name == "set":
        return f"{first} = {format_expression(instruction[2])}"
    if name == "call":
        expressions = ", ".join([format_expression(expression) for expression in instruction[3]])
        return f"call {first} {instruction[2]}({expressions})"
    if name == "wait":
        variables = ", ".join(instruction[2])
        return f"wait {first} of {variables}"
    if name == "catch":
        variables = ", ".join(first)
        return f"catch {variables}"
    if name == "effect":
        return f"say {first}"
    # The number of a work and the variable of a drop are written as expressions, too.
    return f"{name} {format_expression(first)}"


def parse_program(text):
    """Return the Program of a text; raise InvalidText for any other value."""
    if not isinstance(text, str):
        raise InvalidText(None)
    forms = _forms(text.split("\n"))
    try:
        return Program(_plans(forms))
    except (InvalidPlan, InvalidProgram):
        raise InvalidText(None) from None


def _forms(lines):
    """Return the forms of lines; raise InvalidText with the index of the first one that has none."""
    forms = []
    for index, line in enumerate(lines):
        try:
            forms.append(read_form(line))
        except InvalidText:
            raise InvalidText(index) from None
    return forms


def _plans(forms):
    """Return the dict of the plans that forms describe."""
    plans = {}
    start = 0
    while start < len(forms):
        end = _end_of_plan(forms, start)
        name = forms[start][1]
        if name in plans:
            raise InvalidText(None)
        plans[name] = _plan(forms[start], forms[start + 1:end], forms[end])
        start = end + 1
    return plans


def _end_of_plan(forms, start):
    """Return the index of the result of the plan that begins at an index."""
    if forms[start][0] not in ("plan", "must"):
        raise InvalidText(None)
    end = start + 1
    while end < len(forms) and forms[end][0] == "row":
        end += 1
    if end == len(forms) or forms[end][0] != "result":
        raise InvalidText(None)
    return end


def _plan(head, rows, result):
    depths = [row[1] for row in rows]
    instructions = [row[2] for row in rows]
    _check_depths(depths, instructions)
    body = [_with_number(instruction, at, depths) for at, instruction in enumerate(instructions)]
    return Plan(head[2], body, result[1], must_finish=head[0] == "must")


def _check_depths(depths, instructions):
    """Raise InvalidText if an instruction is deeper than those in front of it allow."""
    deepest = 1
    for at, instruction in enumerate(instructions):
        if depths[at] > deepest:
            raise InvalidText(None)
        deepest = depths[at] + 1 if instruction[0] in BLOCKS else depths[at]


def _with_number(instruction, at, depths):
    """Return an instruction at an index; an if or a while gets the number of those in its block."""
    if instruction[0] not in BLOCKS:
        return instruction
    # The number of an empty block is 0, with which the plan is invalid.
    end = at + 1
    while end < len(depths) and depths[end] > depths[at]:
        end += 1
    return (*instruction, end - at - 1)
