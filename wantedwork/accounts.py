"""Accounts: what happened on a hub, told without its program, and what follows from that."""

from wantedwork.costs import charge, ordered_shares
from wantedwork.deeds import do_deed
from wantedwork.errors import InvalidLog
from wantedwork.hubs import Hub
from wantedwork.plans import Plan
from wantedwork.steps import end_tick
from wantedwork.surveys import surveyed
from wantedwork.tellings import is_telling
from wantedwork.worlds import World, create_task, held_by


def account(hub):
    """Return the account of a hub."""
    again = Hub(hub.program, patience=hub.patience)
    return [_told(again, deed) for deed in hub.log]


def _told(hub, deed):
    """Do a deed on a hub; return what an account tells of it."""
    cost = hub.cost
    key = do_deed(hub, deed)
    if deed[0] == "ask":
        return "ask", deed[1], key, deed[4]
    if deed[0] in ("drop", "pass"):
        return deed
    if key is None:
        return ("idle",)
    task = hub._world.by_key[key]
    held = tuple(held_by(hub._world, task))
    return "step", key, held, hub.cost - cost, task.ending, task.plan.must_finish


def is_account(value, patience):
    """Tell whether any value is an account, as the tuples tell it."""
    try:
        _followed(value, patience)
    except InvalidLog:
        return False
    return True


def shares_of(value, patience):
    """Return the shares that follow from an account; raise InvalidLog for any other value."""
    return ordered_shares(_followed(value, patience).borne)


def _followed(value, patience):
    """Return the world behind an account; raise InvalidLog for any other value."""
    if not isinstance(value, list):
        raise InvalidLog(None)
    # In place of a program, the world knows of each plan that made a step whether it must finish.
    world = World({}, patience)
    for index, telling in enumerate(value):
        if not is_telling(telling) or not _follows(world, telling):
            raise InvalidLog(index)
    return world


def _follows(world, telling):
    """Let a world go on as a tuple tells; tell whether it can."""
    name, *values = telling
    follower = FOLLOWERS[name]
    return follower(world, *values)


def _task_there(world, key):
    """Return the task with a key, which is created if there is none."""
    if key not in world.by_key:
        create_task(world, key, Plan((), (), 0))
    return world.by_key[key]


def _is_handed(world, user, key):
    return key in world.by_key and user in world.by_key[key].handed


def _follow_ask(world, user, key, urgency):
    task = _task_there(world, key)
    task.handed[user] = urgency
    world.survey = None
    return True


def _follow_drop(world, user, key):
    if not _is_handed(world, user, key):
        return False
    del world.by_key[key].handed[user]
    world.survey = None
    return True


def _follow_pass(world, user, other, key):
    if not _is_handed(world, user, key):
        return False
    handed = world.by_key[key].handed
    handed[other] = handed.pop(user)
    world.survey = None
    return True


def _follow_step(world, key, held, cost, end, must):
    if key not in surveyed(world).urgencies:
        return False
    if key[0] not in world.source:
        world.source[key[0]] = Plan((), (), 0, must_finish=must)
    task = world.by_key[key]
    task.plan = world.source[key[0]]
    if task.plan.must_finish != must or not _can_hold(world, task, held, end):
        return False
    if cost > 0:
        charge(world, task, cost)
    task.moves += 1
    task.ending = end
    _hold(world, task, held)
    end_tick(world)
    return True


def _can_hold(world, task, held, end):
    """Tell whether a task can hold this behind a step at which it ends so."""
    if end != "":
        return len(held) == 0
    # A task that is not there yet is created by this step, and gets the next number.
    numbers = [world.by_key[key].number if key in world.by_key else world.created for key in held]
    if not all([number < behind for number, behind in zip(numbers, numbers[1:])]):
        return False
    added = [key for key in held if key not in task.ties]
    removed = [key for key in task.ties if key not in held]
    return len(added) == 0 or (len(added) == 1 and len(removed) <= 1)


def _hold(world, task, held):
    """Let a task hold this, behind a step."""
    for key in held:
        _task_there(world, key)
    # Of which variables the ties are is not told; each key stands in for one.
    ties = {key: key for key in held}
    if task.ending != "" or ties != task.ties:
        world.survey = None
    task.ties = ties


def _follow_idle(world):
    end_tick(world)
    return True


FOLLOWERS = {
    "ask": _follow_ask,
    "drop": _follow_drop,
    "pass": _follow_pass,
    "step": _follow_step,
    "idle": _follow_idle,
}
