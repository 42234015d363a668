"""The tuples of accounts: which values have one of their forms."""

from wantedwork.instructions import HIGHEST_COST
from wantedwork.words import has_key_form, is_integer, is_word, name_of
from wantedwork.worlds import HIGHEST_URGENCY

ENDINGS = ("done", "failed", "")


def _is_ask(values):
    user, key, urgency = values
    return is_word(user) and has_key_form(key) and is_integer(urgency, 0, HIGHEST_URGENCY)


def _is_drop(values):
    user, key = values
    return is_word(user) and has_key_form(key)


def _is_pass(values):
    user, other, key = values
    return is_word(user) and is_word(other) and has_key_form(key)


def _is_step(values):
    key, held, cost, end, must = values
    if not has_key_form(key) or not isinstance(held, tuple) or not all([has_key_form(each) for each in held]):
        return False
    if not is_integer(cost, 0, HIGHEST_COST) or not isinstance(must, bool):
        return False
    return isinstance(end, str) and end in ENDINGS


def _is_idle(values):
    return True


CHECKS = {"ask": _is_ask, "drop": _is_drop, "pass": _is_pass, "step": _is_step, "idle": _is_idle}
SIZES = {"ask": 4, "drop": 3, "pass": 4, "step": 6, "idle": 1}


def is_telling(value):
    """Tell whether any value has the form of a tuple of an account, whatever came before it."""
    name = name_of(value)
    if name not in CHECKS or len(value) != SIZES[name]:
        return False
    check = CHECKS[name]
    return check(value[1:])
