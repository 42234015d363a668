"""Hubs with five hundred tasks: they answer, and every way to one more raises LimitExceeded(500)."""

import unittest

from observing import seen
from wantedwork.accounts import account, is_account, shares_of
from wantedwork.console import Console
from wantedwork.crews import Crew
from wantedwork.errors import InvalidLog, LimitExceeded
from wantedwork.hubs import Hub
from wantedwork.language import parse_program
from wantedwork.logs import journal, recovered, rehearsed, replayed
from wantedwork.stopping import is_stuck_set, ring, stuck
from wantedwork.urging import are_bounds, urgency, urgency_chain
from wantedwork.wanting import chain, is_chain, is_cut, paused, users_of, wanted

# The tasks of row call one another one by one, without an end; those of round come around.
PROGRAM = parse_program("""must row n
  work 1
  call x row(n + 1)
  wait 1 of x
result n
plan round n
  call x round((n + 1) * (n < 499))
  catch x
result n
plan job n
  work 1
result n""")


def row(number):
    return "row", (number,)


def row_hub():
    """Return a hub with 500 tasks, each of which holds the next one but the last, which is to call another one."""
    hub = Hub(PROGRAM)
    hub.ask("ann", "row", 0, urgency=4)
    hub.run(2 * 499 + 1)
    return hub


class LimitCase(unittest.TestCase):
    def assert_limited(self, hub, deed, *values, **more):
        """Check that a deed raises LimitExceeded(500), and changes nothing."""
        before = seen(hub)
        with self.assertRaises(LimitExceeded) as caught:
            deed(*values, **more)
        self.assertIs(type(caught.exception), LimitExceeded)
        self.assertEqual((caught.exception.limit, seen(hub)), (500, before))


class WaysTest(LimitCase):
    def setUp(self):
        self.hub = row_hub()
        self.assertEqual((len(self.hub), self.hub.state(row(499)), self.hub.steps(row(499))), (500, "ready", 1))

    def test_ask(self):
        self.assert_limited(self.hub, self.hub.ask, "ann", "row", 500)
        self.assert_limited(self.hub, self.hub.ask, "zed", "job", 0, urgency=9)
        self.assertEqual(self.hub.ask("zed", "row", 499), row(499))

    def test_tick_and_ticks(self):
        for policy in Hub.POLICIES:
            self.assert_limited(self.hub, self.hub.tick, policy)
            steps = self.hub.ticks(policy)
            self.assert_limited(self.hub, next, steps)

    def test_ticks_that_were_made_before_remain(self):
        hub = Hub(PROGRAM)
        hub.ask("ann", "row", 0)
        steps = []
        with self.assertRaises(LimitExceeded):
            for key in hub.ticks():
                steps.append(key)
        self.assertEqual((len(steps), hub.clock), (2 * 499 + 1, 2 * 499 + 1))

    def test_run(self):
        self.assert_limited(self.hub, self.hub.run, 1)
        self.assert_limited(self.hub, self.hub.run, 10000, "fair")
        hub = Hub(PROGRAM)
        hub.ask("ann", "row", 0, urgency=4)
        with self.assertRaises(LimitExceeded) as caught:
            hub.run(10000)
        self.assertEqual((caught.exception.limit, seen(hub)), (500, seen(self.hub)))

    def test_pick(self):
        self.assert_limited(self.hub, self.hub.pick, row(499))

    def test_finish(self):
        crew = Crew(self.hub, 2)
        crew.begin(0)
        self.assert_limited(self.hub, crew.finish, 0)
        self.assertEqual(crew.leases(), {0: row(499)})
        self.assert_limited(self.hub, crew.finish, 0)

    def test_console(self):
        console = Console(PROGRAM)
        console.execute("ask ann 4 row(0)")
        with self.assertRaises(LimitExceeded) as caught:
            console.execute("run 10000 oldest")
        self.assertEqual((caught.exception.limit, seen(console.hub_copy())), (500, seen(self.hub)))
        for line in ("ask bob 0 job(1)", "tick urgent", "pick row(499)", "run 1 newest"):
            with self.assertRaises(LimitExceeded) as caught:
                console.execute(line)
            self.assertEqual((caught.exception.limit, seen(console.hub_copy())), (500, seen(self.hub)))

    def test_replayed_and_rehearsed(self):
        log = self.hub.log
        for deed in (("ask", "ann", "job", (1,), 0), ("tick", "fair"), ("pick", row(499))):
            with self.assertRaises(InvalidLog) as caught:
                replayed(PROGRAM, log + [deed, ("tick", "oldest")])
            self.assertEqual((caught.exception.index, caught.exception.__cause__.limit), (len(log), 500))
            self.assertIs(type(caught.exception.__cause__), LimitExceeded)
            before = seen(self.hub)
            with self.assertRaises(InvalidLog) as caught:
                rehearsed(self.hub, [("ask", "bob", "row", (0,), 0), deed])
            self.assertEqual((caught.exception.index, caught.exception.__cause__.limit, seen(self.hub)), (1, 500, before))

    def test_recovered(self):
        hub, count = recovered(PROGRAM, journal(self.hub))
        self.assertEqual((hub == self.hub, count), (True, 1000))
        text = f"1000 tick fair #{sum_of('1000 tick fair')}\n"
        self.assertEqual(recovered(PROGRAM, journal(self.hub) + text), (self.hub, 1000))

    def test_within_a_trial(self):
        before = seen(self.hub)
        with self.assertRaises(LimitExceeded):
            with self.hub.trial():
                self.hub.ask("bob", "row", 7)
                self.hub.tick()
        self.assertEqual(seen(self.hub), before)


def sum_of(text):
    signs = "0123456789abcdefghijklmnopqrstuvwxyz(), "
    return sum((index + 1) * signs.index(sign) for index, sign in enumerate(text)) % 9973


class AnswersTest(LimitCase):
    def test_a_row(self):
        hub = row_hub()
        keys = [row(number) for number in range(500)]
        self.assertEqual((hub.tasks, wanted(hub), paused(hub), stuck(hub), ring(hub)), (keys, keys, [], [], None))
        self.assertEqual((chain(hub, keys[-1])[-1], users_of(hub, keys[-1])), (keys[-1], ["ann"]))
        self.assertEqual((urgency(hub, keys[-1]), urgency_chain(hub, keys[-1])), (4, ["ann", *keys]))
        self.assertIs(is_chain(hub, keys[-1], ["ann", *keys]), True)
        self.assertIs(are_bounds(hub, {key: 4 for key in keys}), True)
        self.assertEqual((hub.cost, hub.shares), (500, {"ann": (500, 1)}))
        told = account(hub)
        self.assertEqual((len(told), is_account(told, 10), shares_of(told, 10)), (1000, True, hub.shares))
        self.assertEqual((Crew(hub, 10).begin(3, "fair"), hub == hub.copy()), (keys[-1], True))

    def test_a_row_without_its_user(self):
        hub = row_hub()
        hub.drop("ann", row(0))
        self.assertEqual((len(wanted(hub)), chain(hub, row(499))), (500, [None, row(499)]))
        self.assertEqual(users_of(hub, row(499)), [])

    def test_a_round(self):
        hub = Hub(PROGRAM, patience=3)
        hub.ask("ann", "round", 0, urgency=2)
        self.assertEqual(hub.run(10000), 500)
        keys = [("round", (number,)) for number in range(500)]
        self.assertEqual((hub.tasks, stuck(hub), ring(hub)), (keys, keys, keys))
        self.assertEqual((is_stuck_set(hub, keys), is_stuck_set(hub, keys[1:])), (True, False))
        hub.drop("ann", keys[0])
        self.assertEqual((paused(hub), is_cut(hub, keys), stuck(hub)), (keys, True, []))
        told = account(hub)
        self.assertEqual((is_account(told, 3), shares_of(told, 3)), (True, {}))
        for _ in range(4):
            self.assertIsNone(hub.tick("fair"))
        self.assertEqual((len(hub), hub.tasks), (0, []))
        self.assertIs(replayed(PROGRAM, hub.log, patience=3) == hub, True)
        self.assertIs(recovered(PROGRAM, journal(hub), patience=3)[0] == hub, True)
        self.assertIs(is_account(account(hub), 3), True)

    def test_many_jobs(self):
        hub = Hub(PROGRAM)
        for number in range(500):
            hub.ask("ann", "job", number, urgency=number % 10)
        crew = Crew(hub, 10, time=1000)
        self.assertEqual([crew.begin(worker, "urgent") for worker in range(10)], [("job", (9 + 10 * place,)) for place in range(10)])
        self.assertEqual([crew.finish(worker) for worker in range(10)], [("job", (9 + 10 * place,)) for place in range(10)])
        self.assertEqual((hub.run(10000, "fair"), hub.cost, hub.shares), (990, 500, {"ann": (500, 1)}))
        told = account(hub)
        self.assertEqual((is_account(told, 10), shares_of(told, 10)), (True, hub.shares))


if __name__ == "__main__":
    unittest.main()
