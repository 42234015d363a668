"""A console: a hub that is told by words what to do, and answers by words."""

from wantedwork.deeds import do_deed, read_deed
from wantedwork.errors import InvalidCommand, InvalidText
from wantedwork.hubs import Hub
from wantedwork.reading import read_values
from wantedwork.stopping import stuck
from wantedwork.urging import urgency
from wantedwork.wanting import chain, paused, wanted
from wantedwork.words import key_text


class Console:
    """Performs commands on a hub of its own."""

    def __init__(self, program, *, patience=10):
        self._hub = Hub(program, patience=patience)

    def hub_copy(self):
        """Return a copy of the hub."""
        return self._hub.copy()

    def execute(self, line):
        """Perform a command, and return its answer."""
        command = _read_command(line)
        name, *values = command
        if name not in ANSWERS:
            return _deed_answer(self._hub, command)
        answer = ANSWERS[name]
        return answer(self._hub, *values)


def _read_command(line):
    """Return a deed, or the name of another command and its values; raise InvalidCommand for any other value."""
    if not isinstance(line, str):
        raise InvalidCommand(line)
    words = line.split(" ")
    name = words[0]
    try:
        return (name, *read_values(words[1:], FORMS[name])) if name in FORMS else read_deed(words)
    except InvalidText:
        raise InvalidCommand(line) from None


def _deed_answer(hub, deed):
    key = do_deed(hub, deed)
    if deed[0] in ("drop", "pass"):
        return "ok"
    return "-" if key is None else key_text(key)


def _or_dash(text):
    return "-" if text == "" else text


def _keys_text(keys):
    return _or_dash(" ".join([key_text(key) for key in keys]))


def _number_text(number):
    return "-" if number is None else str(number)


def _run(hub, most, policy):
    return str(hub.run(most, policy))


def _state(hub, key):
    return hub.state(key)


def _result(hub, key):
    return _number_text(hub.result_of(key))


def _reason(hub, key):
    return _number_text(hub.reason_of(key))


def _rest(hub, key):
    return str(hub.rest(key))


def _urgency(hub, key):
    return str(urgency(hub, key))


def _wanted(hub):
    return _keys_text(wanted(hub))


def _paused(hub):
    return _keys_text(paused(hub))


def _stuck(hub):
    return _keys_text(stuck(hub))


def _tasks(hub):
    return _keys_text(hub.tasks)


def _why(hub, key):
    found = chain(hub, key)
    if found is None:
        return "-"
    first, *keys = found
    return " ".join(["-" if first is None else first, _keys_text(keys)])


def _cost(hub):
    words = [str(hub.cost)]
    for user, (numerator, denominator) in hub.shares.items():
        bearer = "house" if user is None else user
        words.append(f"{bearer}={numerator}/{denominator}")
    return " ".join(words)


def _effects(hub):
    return _or_dash("; ".join([f"{key_text(key)}:{text}" for key, text in hub.effects]))


# The commands that are no deeds, and the words that stand behind their names.
FORMS = {
    "run": ("number", "word"),
    "state": ("key",),
    "result": ("key",),
    "reason": ("key",),
    "rest": ("key",),
    "urgency": ("key",),
    "wanted": (),
    "paused": (),
    "stuck": (),
    "tasks": (),
    "why": ("key",),
    "cost": (),
    "effects": (),
}
ANSWERS = {
    "run": _run,
    "state": _state,
    "result": _result,
    "reason": _reason,
    "rest": _rest,
    "urgency": _urgency,
    "wanted": _wanted,
    "paused": _paused,
    "stuck": _stuck,
    "tasks": _tasks,
    "why": _why,
    "cost": _cost,
    "effects": _effects,
}
