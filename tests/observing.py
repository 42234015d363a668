"""What can be seen of a hub, and values of all kinds for arguments that may be any value."""

import unittest


def seen(hub):
    """Return all that the methods of a hub tell, for comparisons."""
    return {
        "clock": hub.clock,
        "tasks": hub.tasks,
        "len": len(hub),
        "users": hub.users,
        "handles": {user: list(hub.handles(user).items()) for user in hub.users},
        "effects": hub.effects,
        "cost": hub.cost,
        "shares": list(hub.shares.items()),
        "log": hub.log,
        "each": [seen_task(hub, key) for key in hub.tasks],
    }


def seen_task(hub, key):
    """Return all that a hub tells about a task."""
    return {
        "key": key,
        "state": hub.state(key),
        "result": hub.result_of(key),
        "reason": hub.reason_of(key),
        "holds": hub.holds(key),
        "steps": hub.steps(key),
        "rest": hub.rest(key),
        "work": hub.work_of(key),
    }


class HubCase(unittest.TestCase):
    def assert_raises(self, hub, error, field, value, deed, *values, **more):
        """Check that a deed raises an error with a field, and changes nothing."""
        before = seen(hub)
        with self.assertRaises(error) as caught:
            deed(*values, **more)
        self.assertIs(type(caught.exception), error)
        self.assertIs(getattr(caught.exception, field), value)
        self.assertEqual(seen(hub), before)


class Contrary:
    """Claims to be equal to everything."""

    def __eq__(self, other):
        return True

    __hash__ = None


def deep_tuple():
    """Return a tuple nested far deeper than Python's recursion allows."""
    deep = ()
    for _ in range(100000):
        deep = (deep,)
    return deep


NO_WORDS = (
    None, 0, 1, True, 1.5, b"ann", "", "a" * 9, "A", "a1", "a b", " a", "a ", "a\n", "-", ["a"], ("a",), {"a": 1},
    {"a"}, object(), Contrary(), int,
)

NO_INTEGERS = (None, True, False, 1.0, 2.5, "1", b"1", (1,), [1], {1: 1}, {1}, object(), Contrary(), int)
