"""A slow reading of point 17, word by word; the forms of tuples are read off how they are written."""

import re
from fractions import Fraction

WORD = "'[a-z]{1,8}'"
NUMBER = "(?:0|[1-9][0-9]*)"
KEY = rf"\({WORD}, \((?:{NUMBER},|{NUMBER}, {NUMBER}|{NUMBER}, {NUMBER}, {NUMBER})?\)\)"
FORMS = (
    rf"\('ask', {WORD}, {KEY}, [0-9]\)",
    rf"\('drop', {WORD}, {KEY}\)",
    rf"\('pass', {WORD}, {WORD}, {KEY}\)",
    rf"\('step', {KEY}, \((?:{KEY},|{KEY}(?:, {KEY})+)?\), {NUMBER}, '(?:done|failed|)', (?:True|False)\)",
    r"\('idle',\)",
)


def keys_in(item):
    """Return all keys in a tuple that has a form."""
    return {"ask": lambda: [item[2]], "drop": lambda: [item[2]], "pass": lambda: [item[3]],
            "step": lambda: [item[1], *item[2]], "idle": lambda: []}[item[0]]()


def has_form(item):
    if not isinstance(item, tuple) or not any(re.fullmatch(form, repr(item)) for form in FORMS):
        return False
    if item[0] == "step" and item[3] > 1000:
        return False
    return all(number < 1000000007 for key in keys_in(item) for number in key[1])


class ToldTask:
    def __init__(self, key):
        self.key, self.held, self.steps, self.over, self.must, self.rest = key, [], 0, False, False, 0


class ToldHub:
    """What the tuples of an account have told so far."""

    def __init__(self, patience):
        self.patience, self.tasks, self.handles, self.musts, self.shares = patience, [], [], {}, {}

    def find(self, key):
        found = [task for task in self.tasks if task.key == key]
        return found[0] if found else None

    def made(self, key):
        if self.find(key) is None:
            self.tasks.append(ToldTask(key))
        return self.find(key)

    def reached(self, starts):
        """Return the unfinished tasks among some and those that they hold, directly or not."""
        found = [task for task in starts if not task.over]
        for task in found:
            for key in task.held:
                other = self.find(key)
                if not other.over and other not in found:
                    found.append(other)
        return found

    def wanted(self):
        starts = [self.find(key) for _, key in self.handles]
        return self.reached(starts + [task for task in self.tasks if task.steps > 0 and task.must])

    def goes_on(self, item):
        """Do what a tuple tells; return whether this is possible."""
        name, *values = item
        if name == "ask":
            user, key, _ = values
            self.made(key)
            if (user, key) not in self.handles:
                self.handles.append((user, key))
            return True
        if name == "drop":
            return self.take(*values)
        if name == "pass":
            user, other, key = values
            if not self.take(user, key):
                return False
            if (other, key) not in self.handles:
                self.handles.append((other, key))
            return True
        if name == "step" and not self.step(*values):
            return False
        self.end_tick()
        return True

    def take(self, user, key):
        if (user, key) not in self.handles:
            return False
        self.handles.remove((user, key))
        return True

    def step(self, key, held, cost, end, must):
        task = self.find(key)
        if task not in self.wanted() or self.musts.setdefault(key[0], must) != must:
            return False
        self.charge(task, cost)
        more = [other for other in held if other not in task.held]
        less = [other for other in task.held if other not in held]
        if len(more) > 1 or (more and len(less) > 1) or (end and held):
            return False
        for other in more:
            self.made(other)
        if list(held) != [other.key for other in self.tasks if other.key in held]:
            return False
        task.held, task.over, task.must, task.steps = list(held), end != "", must, task.steps + 1
        return True

    def charge(self, task, cost):
        users = {user for user, key in self.handles if task in self.reached([self.find(key)])} or {None}
        for user in users:
            self.shares[user] = self.shares.get(user, 0) + Fraction(cost, len(users))

    def end_tick(self):
        wanted = self.wanted()
        for task in self.tasks:
            task.rest = 0 if task.over or task in wanted else task.rest + 1
        self.tasks = [task for task in self.tasks if task.rest <= self.patience]


def told(value, patience):
    """Return the index of the first tuple by which a list is no account, or the items of the shares."""
    hub = ToldHub(patience)
    for index, item in enumerate(value):
        if not has_form(item) or not hub.goes_on(item):
            return index
    users = sorted(user for user in hub.shares if user is not None) + [None] * (None in hub.shares)
    return [(user, hub.shares[user].as_integer_ratio()) for user in users if hub.shares[user] > 0]
