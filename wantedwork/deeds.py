"""Deeds as they stand in a log: which values have their form, how they are done, written and read."""

from wantedwork.errors import InvalidText
from wantedwork.reading import read_values
from wantedwork.words import key_text, name_of


def _ask(hub, user, plan, arguments, urgency):
    return hub.ask(user, plan, *arguments, urgency=urgency)


def _drop(hub, user, key):
    hub.drop(user, key)
    return None


def _pass(hub, user, other, key):
    hub.pass_on(user, other, key)
    return None


def _tick(hub, policy):
    return hub.tick(policy)


def _pick(hub, key):
    hub.pick(key)
    return key


DOERS = {"ask": _ask, "drop": _drop, "pass": _pass, "tick": _tick, "pick": _pick}
SIZES = {"ask": 5, "drop": 3, "pass": 4, "tick": 2, "pick": 2}
# The words that are written behind the name of a deed.
WRITTEN = {
    "ask": ("word", "number", "key"),
    "drop": ("word", "key"),
    "pass": ("word", "word", "key"),
    "tick": ("word",),
    "pick": ("key",),
}


def is_deed(value):
    """Tell whether any value has the form of a deed, whether it can be done or not."""
    name = name_of(value)
    if name not in SIZES or len(value) != SIZES[name]:
        return False
    return name != "ask" or isinstance(value[3], tuple)


def do_deed(hub, deed):
    """Do a deed; return the key of the task that is asked for or that makes a step, otherwise None."""
    name, *values = deed
    doer = DOERS[name]
    return doer(hub, *values)


def deed_text(deed):
    """Return the words of a deed that was done."""
    if deed[0] == "tick":
        return " ".join(deed)
    if deed[0] == "ask":
        _, user, plan, arguments, urgency = deed
        return f"ask {user} {urgency} {key_text((plan, arguments))}"
    *words, key = deed
    return " ".join([*words, key_text(key)])


def read_deed(words):
    """Return the deed that a list of words tells; raise InvalidText(None) if there is none."""
    name = words[0] if len(words) > 0 else ""
    if name not in WRITTEN:
        raise InvalidText(None)
    values = read_values(words[1:], WRITTEN[name])
    if name == "ask":
        user, urgency, key = values
        return "ask", user, *key, urgency
    return name, *values
