"""The log, trials, copies and equality of hubs."""

import unittest

from observing import Contrary, seen
from wantedwork.errors import InvalidName, InvalidPolicy, LimitExceeded, NotHeld
from wantedwork.hubs import Hub
from wantedwork.language import parse_program

PROGRAM = parse_program("""plan p n
  v = 1
  call x q(n)
  say hello
  work 3
  catch x
  work 2
  fail reason x + n
result x
must q n
  work 4
  say there
  fail n
result n""")
OTHER = parse_program("plan p n\nresult 0\nplan q n\nresult n")
P, Q = ("p", (1,)), ("q", (1,))


def busy_hub():
    """Return a hub on which much is under way."""
    hub = Hub(PROGRAM, patience=3)
    hub.ask("ann", "p", 1, urgency=4)
    hub.ask("bob", "p", 2)
    hub.drop("ann", hub.ask("ann", "q", 9))
    hub.run(7, "fair")
    hub.ask("cleo", "q", 2, urgency=2)
    hub.pass_on("bob", "cleo", ("p", (2,)))
    hub.run(2, "newest")
    return hub


class LogTest(unittest.TestCase):
    def test_all_deeds_in_their_order(self):
        hub = Hub(PROGRAM)
        hub.ask("ann", "p", 1)
        hub.ask("bob", "q", 1, urgency=5)
        hub.tick()
        hub.tick("urgent")
        hub.pick(Q)
        hub.run(2, "fair")
        list(hub.ticks("newest"))
        hub.pass_on("bob", "cleo", Q)
        hub.drop("cleo", Q)
        ticks = [("tick", "newest")] * (hub.clock - 5)
        self.assertEqual(hub.log, [
            ("ask", "ann", "p", (1,), 0), ("ask", "bob", "q", (1,), 5), ("tick", "oldest"), ("tick", "urgent"),
            ("pick", Q), ("tick", "fair"), ("tick", "fair"), *ticks, ("pass", "bob", "cleo", Q), ("drop", "cleo", Q),
        ])
        self.assertGreater(len(ticks), 2)

    def test_deeds_that_raise_are_not_in_it(self):
        hub = Hub(PROGRAM)
        hub.ask("ann", "p", 1)
        for error, deed in ((InvalidName, lambda: hub.ask("", "p", 1)), (NotHeld, lambda: hub.drop("bob", P)),
                            (NotHeld, lambda: hub.pass_on("bob", "ann", P)), (InvalidPolicy, lambda: hub.tick("no")),
                            (InvalidPolicy, lambda: hub.run(0, "no"))):
            with self.assertRaises(error):
                deed()
        self.assertEqual(hub.log, [("ask", "ann", "p", (1,), 0)])

    def test_looking_is_no_deed(self):
        hub = busy_hub()
        before = hub.log
        seen(hub)
        self.assertEqual(hub.run(0), 0)
        self.assertEqual((P in hub, hub == hub.copy(), hub.log), (True, True, before))

    def test_the_deeds_lead_to_the_same_hub(self):
        hub = busy_hub()
        again = Hub(PROGRAM, patience=3)
        for deed in hub.log:
            if deed[0] == "ask":
                again.ask(deed[1], deed[2], *deed[3], urgency=deed[4])
            else:
                method = {"drop": again.drop, "pass": again.pass_on, "tick": again.tick, "pick": again.pick}[deed[0]]
                method(*deed[1:])
        self.assertEqual((seen(again), again == hub), (seen(hub), True))


class EqualityTest(unittest.TestCase):
    def test_programs_patiences_and_logs(self):
        self.assertIs(Hub(PROGRAM) == Hub(PROGRAM), True)
        self.assertIs(Hub(PROGRAM) != Hub(PROGRAM), False)
        self.assertIs(Hub(PROGRAM) == Hub(OTHER), False)
        self.assertIs(Hub(PROGRAM) == Hub(PROGRAM, patience=9), False)
        self.assertIs(Hub(PROGRAM, patience=10) == Hub(PROGRAM), True)
        self.assertIs(Hub(PROGRAM) == Hub(parse_program("must z\nresult 0") | PROGRAM), False)
        self.assertIs(busy_hub() == busy_hub(), True)

    def test_the_logs_count_and_not_the_states(self):
        one, other = Hub(PROGRAM), Hub(PROGRAM)
        for hub in (one, other):
            hub.ask("ann", "p", 1)
        one.tick("oldest")
        other.tick("newest")
        self.assertEqual(one.tasks, other.tasks)
        self.assertIs(one == other, False)
        third = Hub(PROGRAM)
        third.ask("ann", "p", 1)
        third.pick(P)
        self.assertIs(third == one, False)
        third = Hub(PROGRAM)
        third.ask("ann", "p", 1, urgency=1)
        third.tick()
        self.assertIs(third == one, False)

    def test_other_values(self):
        hub = Hub(PROGRAM)
        for value in (None, 0, [], PROGRAM, {}, "hub", Contrary()):
            self.assertIs(hub == value, False)
            self.assertIs(hub != value, True)


class CopyTest(unittest.TestCase):
    def test_is_equal_and_the_same(self):
        hub = busy_hub()
        copied = hub.copy()
        self.assertIs(type(copied), Hub)
        self.assertIsNot(copied, hub)
        self.assertIs(copied == hub, True)
        self.assertEqual(seen(copied), seen(hub))
        self.assertEqual((copied.patience, copied.program == hub.program), (3, True))

    def test_is_independent(self):
        for one, other in ((0, 1), (1, 0)):
            hub = busy_hub()
            hubs = (hub, hub.copy())
            before = seen(hub)
            self.change(hubs[one])
            self.assertEqual(seen(hubs[other]), before)
            self.assertNotEqual(seen(hubs[one]), before)
            self.assertIs(hubs[one] == hubs[other], False)

    def change(self, hub):
        """Change all that can be changed on a hub."""
        for user in hub.users:
            for key in hub.handles(user):
                hub.pass_on(user, "dan", key)
        hub.ask("dan", "p", 5, urgency=1)
        hub.ask("eve", "p", 1, urgency=9)
        hub.run(50, "newest")
        hub.drop("eve", P)
        hub.drop("dan", ("p", (5,)))
        hub.drop("dan", hub.ask("dan", "p", 6))
        hub.run(2)
        hub.run(2)

    def test_goes_on_as_the_hub_does(self):
        for policy in Hub.POLICIES:
            hub = busy_hub()
            copied = hub.copy()
            self.assertEqual(list(hub.ticks(policy)), list(copied.ticks(policy)))
            self.assertEqual((seen(hub), hub == copied), (seen(copied), True))

    def test_all_that_a_task_remembers(self):
        program = parse_program("plan p a\n  v = 3\n  call x bad()\n  say a\n  work 2\n  catch x\n  call y bad()\n  work 1\n"
                                "result a * 1000 + v * 100 + reason x * 10 + known x\nplan bad\n  fail 4\nresult 0")
        hub = Hub(program)
        key = hub.ask("ann", "p", 2, urgency=8)
        for _ in range(7):
            hub = hub.copy()
            hub.tick()
        hub.drop("ann", key)
        hub.tick()
        hub = hub.copy()
        self.assertEqual((hub.rest(key), hub.work_of(key), hub.steps(key), hub.holds(key)), (1, 2, 6, [("bad", ())]))
        hub.ask("ann", "p", 2)
        hub.run(9)
        self.assertEqual((hub.result_of(key), hub.effects, hub.shares), (2340, [(key, "a")], {"ann": (3, 1)}))

    def test_numbers_go_on(self):
        hub = busy_hub().copy()
        hub.ask("zed", "q", 78)
        hub = hub.copy()
        hub.ask("zed", "q", 77)
        self.assertEqual((hub.tasks[-2:], list(hub.handles("zed"))), ([("q", (78,)), ("q", (77,))],) * 2)
        self.assertEqual(hub.tick("newest"), ("q", (77,)))

    def test_of_a_copy_and_within_a_trial(self):
        hub = busy_hub()
        before = seen(hub)
        with hub.trial():
            hub.ask("zed", "q", 77)
            copied = hub.copy().copy()
            within = seen(hub)
        self.assertEqual((seen(hub), seen(copied)), (before, within))
        copied.drop("zed", ("q", (77,)))
        self.assertEqual(seen(hub), before)


class TrialTest(unittest.TestCase):
    def test_the_value_is_the_hub(self):
        hub = busy_hub()
        with hub.trial() as held:
            self.assertIs(held, hub)

    def test_within_it_deeds_are_done(self):
        hub = busy_hub()
        clock = hub.clock
        with hub.trial():
            hub.ask("zed", "q", 77)
            self.assertEqual((hub.tick("newest"), hub.clock, len(hub.log) > clock), (("q", (77,)), clock + 1, True))

    def test_behind_it_the_hub_is_as_before(self):
        hub = busy_hub()
        before, copied = seen(hub), hub.copy()
        with hub.trial():
            CopyTest().change(hub)
            self.assertNotEqual(seen(hub), before)
        self.assertEqual((seen(hub), hub == copied), (before, True))
        self.assertEqual(list(hub.ticks()), list(copied.ticks()))
        self.assertEqual((seen(hub), hub == copied), (seen(copied), True))

    def test_also_if_an_error_is_raised(self):
        hub = busy_hub()
        before = seen(hub)
        for error in (KeyError, InvalidPolicy, LimitExceeded, KeyboardInterrupt):
            with self.assertRaises(error):
                with hub.trial():
                    hub.run(3)
                    hub.ask("zed", "q", 77)
                    raise error(1)
            self.assertEqual(seen(hub), before)
        with self.assertRaises(NotHeld):
            with hub.trial() as held:
                held.run(3)
                held.drop("nobody", P)
        self.assertEqual(seen(hub), before)

    def test_one_begins_when_the_statement_does(self):
        hub = busy_hub()
        trial = hub.trial()
        hub.tick()
        before = seen(hub)
        with trial:
            hub.tick()
        self.assertEqual(seen(hub), before)

    def test_one_after_the_other_with_the_same_object(self):
        hub = busy_hub()
        trial = hub.trial()
        with trial:
            hub.tick()
        hub.tick()
        before = seen(hub)
        with trial as held:
            held.run(5)
            self.assertNotEqual(seen(hub), before)
        self.assertEqual(seen(hub), before)

    def test_one_within_the_other(self):
        hub = busy_hub()
        before = seen(hub)
        with hub.trial():
            hub.ask("zed", "q", 77)
            within = seen(hub)
            with hub.trial():
                hub.run(9, "newest")
                self.assertNotEqual(seen(hub), within)
            self.assertEqual(seen(hub), within)
            hub.run(9, "newest")
        self.assertEqual(seen(hub), before)

    def test_ticks_that_began_ahead_of_it(self):
        hub = busy_hub()
        steps = hub.ticks()
        next(steps)
        before = seen(hub)
        with hub.trial():
            next(steps)
            self.assertNotEqual(seen(hub), before)
        self.assertEqual(seen(hub), before)
        next(steps)
        self.assertEqual((hub.clock, hub.log[:-1]), (before["clock"] + 1, before["log"]))

    def test_two_hubs(self):
        one, other = busy_hub(), busy_hub()
        before = seen(one)
        with one.trial():
            one.run(3)
            other.run(3)
        self.assertEqual(seen(one), before)
        self.assertNotEqual(seen(other), before)


if __name__ == "__main__":
    unittest.main()
