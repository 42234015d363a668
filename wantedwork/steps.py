"""Steps of tasks, and ticks."""

from wantedwork.acting import act, called_key
from wantedwork.costs import charge
from wantedwork.surveys import surveyed
from wantedwork.worlds import is_waiting, next_instruction, task_with


def make_tick(world, chosen):
    """Make a tick at which the task with a key, or none, makes a step; LimitExceeded changes nothing."""
    if chosen is not None:
        _make_step(world, world.by_key[chosen])
    end_tick(world)


def end_tick(world):
    """Count a tick, let the paused tasks rest, and forget those that have rested for too long."""
    world.now += 1
    paused = surveyed(world).paused_keys
    world.rests = {key: world.rests.get(key, 0) + 1 for key in paused}
    forgotten = [key for key in world.rests if world.rests[key] > world.longest_rest]
    for key in forgotten:
        del world.rests[key]
        del world.by_key[key]
        world.survey = None


def _make_step(world, task):
    held = {**task.ties}
    _reach_out(world, task)
    act(world.by_key, task)
    task.moves += 1
    if task.ending == "done":
        world.told.extend([(task.key, text) for text in task.noted])
    if task.ending != "" or task.ties != held:
        world.survey = None
    elif is_waiting(world, task):
        # Nothing else in the survey has changed.
        able = surveyed(world).able
        able.pop(task.key, None)


def _reach_out(world, task):
    """Do what the next instruction of a task does beyond the task; with LimitExceeded nothing has changed."""
    instruction = next_instruction(task)
    if instruction is None:
        return
    if instruction[0] == "work":
        charge(world, task, instruction[1])
    elif instruction[0] == "call":
        task_with(world, called_key(task, instruction))
