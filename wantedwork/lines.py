"""The forms of the lines of a program; a line that has none raises InvalidText(None).

A form is ("plan", name, arguments), ("must", name, arguments), ("result", expression)
or ("row", depth, instruction), where an if or a while has no number yet.
"""

from wantedwork.errors import InvalidText
from wantedwork.reading import read_expression, read_number, read_word, read_words
from wantedwork.words import is_effect, is_word


def read_form(line):
    """Return the form of a line."""
    text = line.lstrip(" ")
    indent = len(line) - len(text)
    if indent == 0:
        return _read_edge(text)
    if indent % 2 == 1:
        raise InvalidText(None)
    return "row", indent // 2, _read_instruction(text)


def _read_edge(text):
    """Return the form of a line that begins or ends a plan."""
    first, _, rest = text.partition(" ")
    if first == "result":
        return first, read_expression(rest)
    if first != "plan" and first != "must":
        raise InvalidText(None)
    words = [read_word(word) for word in rest.split(" ")]
    return first, words[0], tuple(words[1:])


def _read_instruction(text):
    variable, sign, rest = text.partition(" = ")
    # Any word may be a variable, so that this form comes ahead of those that begin with a word.
    if sign != "" and is_word(variable):
        return "set", variable, read_expression(rest)
    first, _, rest = text.partition(" ")
    if first not in READERS:
        raise InvalidText(None)
    reader = READERS[first]
    return reader(rest)


def _read_work(text):
    return "work", read_number(text)


def _read_fail(text):
    return "fail", read_expression(text)


def _read_call(text):
    variable, _, call = text.partition(" ")
    plan, _, rest = call.partition("(")
    if not rest.endswith(")"):
        raise InvalidText(None)
    return "call", read_word(variable), read_word(plan), _read_expressions(rest[:-1])


def _read_expressions(text):
    if text == "":
        return ()
    return tuple([read_expression(part) for part in text.split(", ")])


def _read_wait(text):
    number, _, rest = text.partition(" ")
    if not rest.startswith("of "):
        raise InvalidText(None)
    return "wait", read_number(number), read_words(rest[3:])


def _read_catch(text):
    return "catch", read_words(text)


def _read_drop(text):
    return "drop", read_word(text)


def _read_say(text):
    if not is_effect(text):
        raise InvalidText(None)
    return "effect", text


def _read_if(text):
    return "if", read_expression(text)


def _read_while(text):
    return "while", read_expression(text)


READERS = {
    "work": _read_work,
    "fail": _read_fail,
    "call": _read_call,
    "wait": _read_wait,
    "catch": _read_catch,
    "drop": _read_drop,
    "say": _read_say,
    "if": _read_if,
    "while": _read_while,
}
