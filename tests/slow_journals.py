"""A slow reading of point 16, with regular expressions instead of the package's reading and writing."""

import re

from wantedwork.errors import LimitExceeded, NotHeld, UnknownTask, WorkError
from wantedwork.hubs import Hub

COUNTED = "0123456789abcdefghijklmnopqrstuvwxyz(), "
NUMBER = "(?:0|[1-9][0-9]*)"
WORD = "[a-z]{1,8}"
KEY = rf"({WORD})\(({NUMBER}(?:,{NUMBER})*)?\)"
DEEDS = {
    "ask": rf"ask ({WORD}) ([0-9]) {KEY}",
    "drop": rf"drop ({WORD}) {KEY}",
    "pass": rf"pass ({WORD}) ({WORD}) {KEY}",
    "tick": r"tick (oldest|newest|urgent|fair)",
    "pick": rf"pick {KEY}",
}


def sum_of(text):
    total = 0
    for index in range(len(text)):
        total += (index + 1) * COUNTED.index(text[index])
    return total % 9973


def line_of(number, words):
    """Return the right line for the words of a deed."""
    text = "%d %s" % (number, words)
    return "%s #%d" % (text, sum_of(text))


def key_of(plan, numbers):
    return plan, tuple(int(number) for number in (numbers or "").split(",") if number)


def do(hub, words):
    """Do the deed of some words on a hub; return whether this is possible."""
    for name, form in DEEDS.items():
        match = re.fullmatch(form, words)
        if match is None:
            continue
        groups = match.groups()
        try:
            if name == "ask":
                plan, numbers = key_of(*groups[2:])
                hub.ask(groups[0], plan, *numbers, urgency=int(groups[1]))
            elif name == "tick":
                hub.tick(groups[0])
            else:
                method = {"drop": hub.drop, "pass": hub.pass_on, "pick": hub.pick}[name]
                method(*groups[:-2], key_of(*groups[-2:]))
        except (WorkError, UnknownTask, NotHeld, LimitExceeded):
            return False
        return True
    return False


def recovered(program, text, patience):
    """Return the hub behind the longest beginning of right lines, and their number."""
    hub, count = Hub(program, patience=patience), 0
    for line in re.findall("([^\n]*)\n", text):
        match = re.fullmatch(rf"({count}) ([a-z0-9(), ]*) #({NUMBER})", line)
        if match is None or line != line_of(count, match[2]) or not do(hub, match[2]):
            break
        count += 1
    return hub, count
