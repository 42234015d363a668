"""Logs and journals: doing the deeds of a log again, and hubs that are recovered from a text."""

from wantedwork.deeds import deed_text, do_deed, is_deed, read_deed
from wantedwork.errors import InvalidLog, InvalidText, LimitExceeded, NotHeld, UnknownTask, WorkError
from wantedwork.hubs import Hub

# The characters of the lines of a journal, ahead of their sums; the index of each is what it counts.
SIGNS = "0123456789abcdefghijklmnopqrstuvwxyz(), "
SUM_MODULUS = 9973


def replayed(program, log, *, patience=10):
    """Return a hub on which the deeds of a log have been done."""
    hub = Hub(program, patience=patience)
    _do_all(hub, log)
    return hub


def rehearsed(hub, deeds):
    """Do deeds on a hub in a trial; return a copy of the hub behind them."""
    with hub.trial():
        _do_all(hub, deeds)
        return hub.copy()


def _do_all(hub, deeds):
    """Do the deeds of a list; raise InvalidLog for the first item that is none or cannot be done."""
    for index, deed in enumerate(deeds):
        if not is_deed(deed):
            raise InvalidLog(index)
        try:
            do_deed(hub, deed)
        except (WorkError, UnknownTask, NotHeld, LimitExceeded) as error:
            raise InvalidLog(index) from error


def journal(hub):
    """Return the text of the deeds of a hub, a line for each."""
    return "".join([_line(number, deed) + "\n" for number, deed in enumerate(hub.log)])


def _line(number, deed):
    """Return the line of a journal for a deed with a number."""
    text = f"{number} {deed_text(deed)}"
    return text + " #" + str(_sum_of(text))


def _sum_of(text):
    return sum([(at + 1) * SIGNS.index(sign) for at, sign in enumerate(text)]) % SUM_MODULUS


def recovered(program, text, *, patience=10):
    """Return the hub behind the longest beginning of right lines of a text, and the number of these lines."""
    hub = Hub(program, patience=patience)
    if not isinstance(text, str):
        raise InvalidText(None)
    # What stands behind the last line feed is not ended by one.
    lines = text.split("\n")[:-1]
    count = 0
    while count < len(lines) and _is_redone(hub, count, lines[count]):
        count += 1
    return hub, count


def _is_redone(hub, number, line):
    """Do the deed of a line of a journal; tell whether the line is right and the deed could be done."""
    try:
        deed = _read_line(number, line)
        do_deed(hub, deed)
    except (WorkError, UnknownTask, NotHeld, LimitExceeded):
        return False
    return True


def _read_line(number, line):
    """Return the deed of the line with a number; raise InvalidText(None) if it is not right."""
    # The number and the sum need not be read, as the line is compared with the one that is right.
    deed = read_deed(line.split(" ")[1:-1])
    if _line(number, deed) != line:
        raise InvalidText(None)
    return deed
