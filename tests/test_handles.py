"""Hubs: their making, their tasks, and the handles of users."""

import unittest

from observing import Contrary, HubCase, NO_INTEGERS, NO_WORDS, deep_tuple, seen
from wantedwork.errors import (
    InvalidKey, InvalidName, InvalidNumber, InvalidProgram, LimitExceeded, NotHeld, UnknownTask,
)
from wantedwork.hubs import Hub
from wantedwork.language import parse_program

M = 1000000007
PROGRAM = parse_program("plan add a b\n  work 1\nresult a + b\nplan one n\nresult n\nplan none\nresult 0")
ADD, ONE, NONE = ("add", (1, 2)), ("one", (1,)), ("none", ())

# Values that are no keys of tasks, although some are equal to one.
NO_KEYS = (
    None, 0, "add", "none", (), ("none",), ("none", (), ()), ["none", ()], ("none", []), ("none", None), ("one", 1),
    ("one", (True,)), ("one", (1.0,)), ("one", [1]), ("one", ("1",)), ("one", (1, 1)), ("one", ()), ("one", (-1,)),
    ("one", (M + 1,)), ("one", (None,)), ("one", ([1],)), ("two", ()), ("ONE", (1,)), (1, (1,)), (None, ()), (["one"], (1,)),
    (Contrary(), (1,)), ("one", Contrary()), ("one", (Contrary(),)), Contrary(), {"one": (1,)}, {ONE: 1}, object(),
    ((1,), "one"), ("add", (1, True)), ("add", (2, 1)),
)


class MakingTest(HubCase):
    def test_a_new_hub(self):
        hub = Hub(PROGRAM)
        self.assertIs(hub.program == PROGRAM, True)
        self.assertEqual((hub.patience, hub.clock, hub.tasks, hub.users, len(hub)), (10, 0, [], [], 0))
        self.assertEqual((hub.effects, hub.cost, hub.shares, hub.log), ([], 0, {}, []))

    def test_patience(self):
        for patience in (0, 1, 10, 999, 1000):
            self.assertEqual(Hub(PROGRAM, patience=patience).patience, patience)
        for patience in (-1, 1001, 10 ** 59) + NO_INTEGERS:
            with self.assertRaises(InvalidNumber) as caught:
                Hub(PROGRAM, patience=patience)
            self.assertIs(caught.exception.value, patience)

    def test_other_programs(self):
        for program in (None, 1, "plan a\nresult 0", {}, {"none": PROGRAM["none"]}, PROGRAM["none"], Contrary()):
            for patience in (1, -1, None):
                with self.assertRaises(InvalidProgram) as caught:
                    Hub(program, patience=patience)
                self.assertIsNone(caught.exception.name)

    def test_arguments(self):
        self.assertEqual(Hub(patience=3, program=PROGRAM).patience, 3)
        with self.assertRaises(TypeError):
            Hub(PROGRAM, 3)

    def test_properties_are_not_assigned(self):
        hub = Hub(PROGRAM)
        for name in ("program", "patience", "clock", "tasks", "users", "effects", "cost", "shares", "log"):
            with self.assertRaises(AttributeError):
                setattr(hub, name, getattr(hub, name))


class AskTest(HubCase):
    def test_creates_tasks(self):
        hub = Hub(PROGRAM)
        self.assertEqual(hub.ask("ann", "none"), NONE)
        self.assertEqual(hub.ask("bob", "add", 1, 2), ADD)
        self.assertEqual(hub.ask("ann", "add", 0, M - 1), ("add", (0, M - 1)))
        self.assertEqual(hub.tasks, [NONE, ADD, ("add", (0, M - 1))])
        self.assertEqual((len(hub), hub.users), (3, ["ann", "bob"]))
        self.assertEqual([hub.state(key) for key in hub.tasks], ["new"] * 3)
        self.assertEqual([hub.rest(key) for key in hub.tasks], [0] * 3)
        self.assertEqual(hub.clock, 0)

    def test_users_share_tasks(self):
        hub = Hub(PROGRAM)
        for user in ("cleo", "ann", "bob", "ann"):
            hub.ask(user, "none")
        self.assertEqual((hub.tasks, hub.users), ([NONE], ["ann", "bob", "cleo"]))

    def test_by_name(self):
        hub = Hub(PROGRAM)
        self.assertEqual(hub.ask(plan="none", user="ann", urgency=3), NONE)
        self.assertEqual(hub.handles(user="ann"), {NONE: 3})
        hub.pass_on(key=NONE, other="bob", user="ann")
        hub.drop(key=NONE, user="bob")
        self.assertEqual(hub.users, [])

    def test_urgencies(self):
        hub = Hub(PROGRAM)
        for urgency in (0, 5, 9):
            hub.ask("ann", "none", urgency=urgency)
            self.assertEqual(hub.handles("ann"), {NONE: urgency})
        hub.ask("ann", "none")
        self.assertEqual(hub.handles("ann"), {NONE: 0})
        hub.ask("bob", "none", urgency=7)
        self.assertEqual((hub.handles("ann"), hub.handles("bob")), ({NONE: 0}, {NONE: 7}))

    def test_other_users(self):
        hub = Hub(PROGRAM)
        hub.ask("ann", "none")
        for user in NO_WORDS:
            self.assert_raises(hub, InvalidName, "value", user, hub.ask, user, "none")
            self.assert_raises(hub, InvalidName, "value", user, hub.ask, user, "no", 1, urgency=10)

    def test_other_keys(self):
        hub = Hub(PROGRAM)
        for values in (("no",), ("none", 1), ("one",), ("one", 1, 1), ("add", 1), ("add", 1, 2, 3), ("one", M),
                       ("one", -1), ("one", 1.0), ("one", True), ("one", False), ("one", "n"), ("one", None),
                       ("one", (1,)), ("one", [1]), ("add", 1, True), ("add", M, 1), ("one", Contrary())):
            before = seen(hub)
            for urgency in (0, 10):
                with self.assertRaises(InvalidKey) as caught:
                    hub.ask("ann", *values, urgency=urgency)
                plan, arguments = caught.exception.value
                self.assertEqual(plan, values[0])
                self.assertIs(type(arguments), tuple)
                self.assertEqual([id(value) for value in arguments], [id(value) for value in values[1:]])
            self.assertEqual(seen(hub), before)
        for plan in NO_WORDS:
            with self.assertRaises(InvalidKey) as caught:
                hub.ask("ann", plan)
            self.assertIs(caught.exception.value[0], plan)
            self.assertEqual(caught.exception.value[1], ())

    def test_other_urgencies(self):
        hub = Hub(PROGRAM)
        hub.ask("ann", "none", urgency=4)
        for urgency in (-1, 10, 10 ** 59) + NO_INTEGERS:
            self.assert_raises(hub, InvalidNumber, "value", urgency, hub.ask, "ann", "none", urgency=urgency)
            self.assert_raises(hub, InvalidNumber, "value", urgency, hub.ask, "ann", "one", 1, urgency=urgency)

    def test_500_tasks(self):
        hub = Hub(PROGRAM)
        for number in range(500):
            hub.ask("ann", "one", number)
        self.assertEqual(len(hub), 500)
        before = seen(hub)
        with self.assertRaises(LimitExceeded) as caught:
            hub.ask("ann", "one", 500)
        self.assertEqual(caught.exception.limit, 500)
        self.assertEqual(seen(hub), before)
        for error, values, urgency in ((InvalidName, ("Ann", "one", 500), 0), (InvalidKey, ("ann", "one", M), 0),
                                       (InvalidNumber, ("ann", "one", 500), 10)):
            with self.assertRaises(error):
                hub.ask(*values, urgency=urgency)
        # A task that is there needs no room.
        self.assertEqual(hub.ask("bob", "one", 499), ("one", (499,)))
        self.assertEqual(len(hub), 500)

    def test_a_task_that_is_over_is_asked_for(self):
        hub = Hub(PROGRAM)
        hub.ask("ann", "none")
        hub.run(10)
        hub.ask("bob", "none", urgency=2)
        self.assertEqual((hub.state(NONE), hub.handles("bob"), len(hub)), ("done", {NONE: 2}, 1))


class InTest(HubCase):
    def test_keys(self):
        hub = Hub(PROGRAM)
        self.assertIs(ONE in hub, False)
        hub.ask("ann", "one", 1)
        hub.ask("ann", "none")
        hub.ask("ann", "add", 1, 1)
        self.assertIs(ONE in hub, True)
        self.assertIs(NONE in hub, True)
        self.assertIs(("one", (2,)) in hub, False)
        for value in NO_KEYS + (deep_tuple(),):
            self.assertIs(value in hub, False)

    def test_methods_raise_unknown_task(self):
        hub = Hub(PROGRAM)
        hub.ask("ann", "one", 1)
        hub.ask("ann", "none")
        for name in ("state", "result_of", "reason_of", "holds", "steps", "work_of", "rest", "pick"):
            for value in NO_KEYS + (ADD, ("one", (0,))):
                self.assert_raises(hub, UnknownTask, "key", value, getattr(hub, name), value)
        self.assertEqual(hub.state(key=NONE), "new")


class DropTest(HubCase):
    def test_takes_one_handle_away(self):
        hub = Hub(PROGRAM)
        hub.ask("ann", "none", urgency=1)
        hub.ask("ann", "one", 1, urgency=2)
        hub.ask("bob", "none", urgency=3)
        self.assertIsNone(hub.drop("ann", NONE))
        self.assertEqual((hub.handles("ann"), hub.handles("bob"), hub.users), ({ONE: 2}, {NONE: 3}, ["ann", "bob"]))
        hub.drop("ann", ONE)
        self.assertEqual((hub.handles("ann"), hub.users, hub.tasks), ({}, ["bob"], [NONE, ONE]))

    def test_errors(self):
        hub = Hub(PROGRAM)
        hub.ask("ann", "none")
        hub.ask("ann", "one", 1)
        hub.ask("bob", "add", 1, 2)
        for user in NO_WORDS:
            self.assert_raises(hub, InvalidName, "value", user, hub.drop, user, NONE)
            self.assert_raises(hub, InvalidName, "value", user, hub.drop, user, None)
        for key in NO_KEYS + (ADD, deep_tuple()):
            self.assert_raises(hub, NotHeld, "key", key, hub.drop, "ann", key)
        self.assert_raises(hub, NotHeld, "key", NONE, hub.drop, "bob", NONE)
        self.assert_raises(hub, NotHeld, "key", NONE, hub.drop, "cleo", NONE)
        hub.drop("ann", NONE)
        self.assert_raises(hub, NotHeld, "key", NONE, hub.drop, "ann", NONE)


class PassOnTest(HubCase):
    def test_gives_the_handle_with_its_urgency(self):
        hub = Hub(PROGRAM)
        hub.ask("ann", "none", urgency=6)
        hub.ask("ann", "one", 1)
        self.assertIsNone(hub.pass_on("ann", "bob", NONE))
        self.assertEqual((hub.handles("ann"), hub.handles("bob")), ({ONE: 0}, {NONE: 6}))

    def test_in_place_of_another_handle(self):
        hub = Hub(PROGRAM)
        hub.ask("ann", "none", urgency=3)
        hub.ask("bob", "none", urgency=8)
        hub.pass_on("ann", "bob", NONE)
        self.assertEqual((hub.handles("bob"), hub.users), ({NONE: 3}, ["bob"]))

    def test_to_itself(self):
        hub = Hub(PROGRAM)
        hub.ask("ann", "none", urgency=3)
        hub.pass_on("ann", "ann", NONE)
        self.assertEqual((hub.handles("ann"), hub.users), ({NONE: 3}, ["ann"]))
        self.assertEqual(hub.log[-1], ("pass", "ann", "ann", NONE))

    def test_errors(self):
        hub = Hub(PROGRAM)
        hub.ask("ann", "none")
        hub.ask("ann", "one", 1)
        for user in NO_WORDS:
            self.assert_raises(hub, InvalidName, "value", user, hub.pass_on, user, "bob", NONE)
            self.assert_raises(hub, InvalidName, "value", user, hub.pass_on, user, 1, None)
            self.assert_raises(hub, InvalidName, "value", user, hub.pass_on, "ann", user, NONE)
            self.assert_raises(hub, InvalidName, "value", user, hub.pass_on, "ann", user, None)
        for key in NO_KEYS + (ADD,):
            self.assert_raises(hub, NotHeld, "key", key, hub.pass_on, "ann", "bob", key)
        self.assert_raises(hub, NotHeld, "key", NONE, hub.pass_on, "bob", "ann", NONE)


class HandlesTest(HubCase):
    def test_by_the_numbers_of_the_tasks(self):
        hub = Hub(PROGRAM)
        for user in ("bob", "ann"):
            for number in (3, 1, 2) if user == "bob" else (2, 1, 3):
                hub.ask(user, "one", number, urgency=number)
        expected = [(("one", (number,)), number) for number in (3, 1, 2)]
        for user in ("ann", "bob"):
            self.assertEqual(list(hub.handles(user).items()), expected)

    def test_other_values(self):
        hub = Hub(PROGRAM)
        hub.ask("ann", "none")
        for value in NO_WORDS + ("bob", "an"):
            self.assertEqual(hub.handles(value), {})
            self.assertIs(type(hub.handles(value)), dict)

    def test_a_task_with_a_handle_that_is_over(self):
        hub = Hub(PROGRAM)
        hub.ask("ann", "none", urgency=2)
        hub.run(9)
        self.assertEqual((hub.handles("ann"), hub.users), ({NONE: 2}, ["ann"]))
        hub.drop("ann", NONE)
        self.assertEqual((hub.users, hub.tasks), ([], [NONE]))


class NewResultsTest(HubCase):
    def test_lists_and_dicts_are_new(self):
        hub = Hub(parse_program("plan p\n  call x q()\n  say a\n  work 1\nresult 0\nplan q\nresult 0"))
        hub.ask("ann", "p")
        hub.run(3)
        before = seen(hub)
        for values in (hub.tasks, hub.users, hub.effects, hub.log, hub.holds(("p", ()))):
            values.append(1)
            values.reverse()
        for values in (hub.shares, hub.handles("ann")):
            values.clear()
        self.assertEqual(seen(hub), before)
        self.assertEqual(hub.shares, {"ann": (1, 1)})
        for values in (hub.tasks, hub.users, hub.effects, hub.log, hub.holds(("p", ()))):
            self.assertIs(type(values), list)


if __name__ == "__main__":
    unittest.main()
