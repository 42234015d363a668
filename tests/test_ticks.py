"""Ticks: which tasks are wanted, which one a policy selects, and which ones are forgotten."""

import unittest

from observing import Contrary, HubCase, NO_INTEGERS, seen
from wantedwork.errors import InvalidNumber, InvalidPolicy, UnknownTask
from wantedwork.hubs import Hub
from wantedwork.language import parse_program

PROGRAM = parse_program("""plan job n
  work 1
  work 1
  work 1
result n
must duty n
  work 1
  work 1
result n
plan boss n
  call x job(n)
  wait 1 of x
  work 1
result x
plan chief n
  call x boss(n)
  work 1
  wait 1 of x
result x
plan self
  call x self()
  catch x
result 0""")

NO_POLICIES = (None, 0, True, "", "old", "Oldest", "oldest ", "random", ("oldest",), ["oldest"], {"oldest": 1}, object(),
               Contrary(), b"oldest")


def job(number):
    return "job", (number,)


def boss(number):
    return "boss", (number,)


def duty(number):
    return "duty", (number,)


class WantedTest(HubCase):
    def test_a_task_that_no_user_holds_makes_no_step(self):
        hub = Hub(PROGRAM)
        hub.drop("ann", hub.ask("ann", "job", 1))
        self.assertIsNone(hub.tick())
        self.assertEqual((hub.steps(job(1)), hub.state(job(1)), hub.rest(job(1))), (0, "new", 1))

    def test_a_paused_task_goes_on_where_it_stood(self):
        hub = Hub(PROGRAM)
        hub.ask("ann", "job", 1)
        hub.tick()
        hub.drop("ann", job(1))
        for _ in range(5):
            self.assertIsNone(hub.tick())
        hub.ask("bob", "job", 1)
        self.assertEqual((hub.steps(job(1)), hub.run(9), hub.result_of(job(1)), hub.cost), (1, 3, 1, 3))

    def test_a_task_that_must_finish_is_wanted_behind_its_first_step(self):
        hub = Hub(PROGRAM)
        hub.drop("ann", hub.ask("ann", "duty", 1))
        self.assertIsNone(hub.tick())
        hub.ask("ann", "duty", 1)
        self.assertEqual(hub.tick(), duty(1))
        hub.drop("ann", duty(1))
        self.assertEqual((hub.run(9), hub.result_of(duty(1)), hub.rest(duty(1))), (2, 1, 0))

    def test_what_a_wanted_task_holds_is_wanted(self):
        hub = Hub(PROGRAM)
        hub.ask("ann", "chief", 1)
        self.assertEqual(hub.run(100), 4 + 4 + 4)
        self.assertEqual(hub.result_of(("chief", (1,))), 1)

    def test_what_a_paused_task_holds_is_paused(self):
        hub = Hub(PROGRAM)
        hub.ask("ann", "chief", 1)
        hub.run(4)
        self.assertEqual(hub.steps(job(1)), 1)
        hub.drop("ann", ("chief", (1,)))
        self.assertIsNone(hub.tick())
        self.assertEqual([hub.rest(key) for key in hub.tasks], [1, 1, 1])
        for key in hub.tasks:
            self.assert_raises(hub, InvalidPolicy, "value", key, hub.pick, key)
        hub.ask("bob", "job", 1)
        self.assertEqual((hub.run(100), hub.state(boss(1))), (3, "ready"))

    def test_what_is_held_by_a_task_that_is_over_is_not_wanted_for_that(self):
        program = parse_program("plan p\n  call x q()\n  fail 1\nresult 0\nplan q\n  work 1\nresult 0")
        hub = Hub(program)
        hub.ask("ann", "p")
        self.assertEqual((hub.tick(), hub.tick("oldest"), hub.tick()), (("p", ()), ("p", ()), None))
        self.assertEqual(hub.rest(("q", ())), 2)

    def test_tasks_that_hold_one_another_are_not_wanted_for_that(self):
        program = parse_program("plan p\n  call x q()\n  wait 1 of x\nresult 0\nplan q\n  call x p()\n  work 1\nresult 0")
        hub = Hub(program)
        hub.ask("ann", "p")
        hub.run(2)
        self.assertEqual([hub.holds(key) for key in hub.tasks], [[("q", ())], [("p", ())]])
        hub.drop("ann", ("p", ()))
        self.assertIsNone(hub.tick())
        self.assertEqual([hub.rest(key) for key in hub.tasks], [1, 1])

    def test_a_handle_for_a_task_that_is_over_makes_nothing_wanted(self):
        hub = Hub(PROGRAM)
        hub.ask("ann", "boss", 1)
        hub.run(100)
        self.assertIsNone(hub.tick())
        self.assertEqual((hub.state(boss(1)), hub.rest(boss(1)), hub.rest(job(1))), ("done", 0, 0))

    def test_a_must_holds_what_it_waits_for(self):
        program = parse_program("must p\n  call x q()\n  wait 1 of x\nresult x\nplan q\n  work 1\nresult 3")
        hub = Hub(program, patience=0)
        hub.ask("ann", "p")
        hub.tick()
        hub.drop("ann", ("p", ()))
        self.assertEqual((hub.run(9), hub.result_of(("p", ())), hub.shares), (4, 3, {None: (1, 1)}))


class PoliciesTest(HubCase):
    def picks(self, hub, policy):
        """Return the number that each task that makes a step has as its argument."""
        return [key[1][0] for key in hub.ticks(policy)]

    def hub(self, *urgencies):
        hub = Hub(PROGRAM)
        for number, urgency in enumerate(urgencies):
            hub.ask("ann", "job", number, urgency=urgency)
        return hub

    def test_the_policies(self):
        self.assertEqual(Hub.POLICIES, ("oldest", "newest", "urgent", "fair"))
        self.assertEqual(self.hub().POLICIES, Hub.POLICIES)

    def test_oldest(self):
        self.assertEqual(self.picks(self.hub(1, 3, 2), "oldest"), [0] * 4 + [1] * 4 + [2] * 4)
        hub = self.hub(1, 3, 2)
        self.assertEqual([hub.tick() for _ in range(5)], [job(0)] * 4 + [job(1)])

    def test_newest(self):
        self.assertEqual(self.picks(self.hub(1, 3, 2), "newest"), [2] * 4 + [1] * 4 + [0] * 4)

    def test_urgent(self):
        self.assertEqual(self.picks(self.hub(1, 3, 2), "urgent"), [1] * 4 + [2] * 4 + [0] * 4)
        self.assertEqual(self.picks(self.hub(1, 2, 2, 1), "urgent"), [1] * 4 + [2] * 4 + [0] * 4 + [3] * 4)

    def test_fair(self):
        self.assertEqual(self.picks(self.hub(1, 3, 2), "fair"), [0, 1, 2] * 4)
        hub = self.hub(0, 0, 0)
        hub.pick(job(0))
        hub.pick(job(1))
        hub.pick(job(1))
        self.assertEqual([hub.tick("fair")[1][0] for _ in range(6)], [2, 0, 2, 0, 1, 2])

    def test_numbers_are_those_of_the_creation(self):
        hub = Hub(PROGRAM, patience=0)
        for number in (0, 1):
            hub.ask("ann", "job", number)
        hub.drop("ann", job(0))
        hub.tick()
        hub.ask("ann", "job", 0)
        self.assertEqual((hub.tasks, hub.tick("newest"), hub.tick("oldest")), ([job(1), job(0)], job(0), job(1)))

    def test_urgency_is_that_of_the_most_urgent_handle(self):
        hub = self.hub(4, 5)
        hub.ask("bob", "job", 0, urgency=6)
        self.assertEqual(hub.tick("urgent"), job(0))
        hub.drop("bob", job(0))
        self.assertEqual(hub.tick("urgent"), job(1))
        hub.ask("ann", "job", 0, urgency=9)
        self.assertEqual(hub.tick("urgent"), job(0))
        hub.ask("ann", "job", 0, urgency=0)
        self.assertEqual(hub.tick("urgent"), job(1))
        hub.pass_on("ann", "bob", job(1))
        self.assertEqual((hub.tick("urgent"), hub.handles("bob")), (job(1), {job(1): 5}))

    def test_urgency_reaches_what_is_held(self):
        hub = Hub(PROGRAM)
        hub.ask("ann", "job", 1, urgency=1)
        hub.ask("ann", "job", 2, urgency=4)
        hub.ask("bob", "chief", 1, urgency=7)
        self.assertEqual([hub.tick("urgent") for _ in range(3)], [("chief", (1,)), ("chief", (1,)), boss(1)])
        self.assertEqual(hub.tick("urgent"), job(1))
        hub.drop("bob", ("chief", (1,)))
        self.assertEqual(hub.tick("urgent"), job(2))
        # A lower urgency does not take a higher one away.
        hub.ask("bob", "chief", 1, urgency=0)
        hub.ask("cleo", "boss", 1, urgency=5)
        self.assertEqual(hub.tick("urgent"), job(1))

    def test_without_users_the_urgency_is_least(self):
        hub = Hub(PROGRAM)
        hub.ask("ann", "duty", 1, urgency=9)
        hub.tick()
        hub.ask("ann", "job", 1, urgency=0)
        hub.drop("ann", duty(1))
        self.assertEqual([key[0] for key in hub.ticks("urgent")], ["job"] * 4 + ["duty"] * 2)

    def test_a_task_that_waits_is_not_selected(self):
        for policy in Hub.POLICIES:
            hub = Hub(PROGRAM)
            hub.ask("ann", "boss", 1, urgency=9)
            self.assertEqual(hub.run(1, policy), 1)
            self.assertEqual([key for key in hub.ticks(policy)], [job(1)] * 4 + [boss(1)] * 3)

    def test_other_policies(self):
        hub = self.hub(0)
        for policy in NO_POLICIES:
            self.assert_raises(hub, InvalidPolicy, "value", policy, hub.tick, policy)
            self.assert_raises(hub, InvalidPolicy, "value", policy, hub.run, 3, policy)
            self.assert_raises(hub, InvalidPolicy, "value", policy, hub.run, 0, policy)
            generator = hub.ticks(policy)
            self.assert_raises(hub, InvalidPolicy, "value", policy, next, generator)


class TickTest(HubCase):
    def test_a_tick_without_a_task(self):
        hub = Hub(PROGRAM)
        self.assertIsNone(hub.tick())
        self.assertIsNone(hub.tick(policy="urgent"))
        self.assertEqual((hub.clock, hub.log), (2, [("tick", "oldest"), ("tick", "urgent")]))

    def test_ticks_makes_them_one_by_one(self):
        hub = Hub(PROGRAM)
        hub.ask("ann", "job", 1)
        steps = hub.ticks(policy="fair")
        self.assertEqual(hub.clock, 0)
        self.assertEqual((next(steps), hub.clock), (job(1), 1))
        self.assertEqual((next(steps), hub.clock), (job(1), 2))
        hub.drop("ann", job(1))
        self.assertEqual((next(steps, "end"), hub.clock), ("end", 3))
        self.assertEqual((next(steps, "end"), hub.clock), ("end", 3))
        self.assertEqual(hub.log[1:], [("tick", "fair")] * 2 + [("drop", "ann", job(1)), ("tick", "fair")])

    def test_ticks_without_a_task(self):
        hub = Hub(PROGRAM)
        self.assertEqual((list(hub.ticks()), hub.clock, hub.log), ([], 1, [("tick", "oldest")]))

    def test_run(self):
        hub = Hub(PROGRAM)
        hub.ask("ann", "job", 1)
        self.assertEqual((hub.run(0), hub.clock), (0, 0))
        self.assertEqual((hub.run(3), hub.clock, hub.state(job(1))), (3, 3, "ready"))
        self.assertEqual((hub.run(1), hub.clock, hub.state(job(1))), (1, 4, "done"))
        self.assertEqual((hub.run(5), hub.clock), (0, 5))
        hub.ask("ann", "job", 2)
        self.assertEqual((hub.run(policy="newest", most=10000), hub.clock), (4, 10))
        self.assertEqual(hub.log[-5:], [("tick", "newest")] * 5)

    def test_run_with_other_numbers(self):
        hub = Hub(PROGRAM)
        hub.ask("ann", "job", 1)
        for most in (-1, 10001, 10 ** 59) + NO_INTEGERS:
            self.assert_raises(hub, InvalidNumber, "value", most, hub.run, most)
            self.assert_raises(hub, InvalidNumber, "value", most, hub.run, most, "no")

    def test_pick(self):
        hub = Hub(PROGRAM)
        for number in range(3):
            hub.ask("ann", "job", number)
        self.assertIsNone(hub.pick(job(1)))
        self.assertIsNone(hub.pick(key=job(2)))
        self.assertEqual(([hub.steps(key) for key in hub.tasks], hub.clock), ([0, 1, 1], 2))
        self.assertEqual(hub.log[-2:], [("pick", job(1)), ("pick", job(2))])

    def test_pick_grows_rests_and_forgets(self):
        hub = Hub(PROGRAM, patience=1)
        hub.ask("ann", "job", 1)
        hub.drop("ann", hub.ask("ann", "job", 2))
        hub.pick(job(1))
        self.assertEqual(hub.rest(job(2)), 1)
        hub.pick(job(1))
        self.assertEqual(hub.tasks, [job(1)])

    def test_pick_of_what_makes_no_step(self):
        hub = Hub(PROGRAM)
        paused = hub.ask("ann", "job", 1)
        hub.drop("ann", paused)
        done = hub.ask("ann", "job", 2)
        hub.run(4)
        waiting = hub.ask("ann", "boss", 3)
        hub.run(1)
        fresh = hub.ask("ann", "duty", 3)
        hub.drop("ann", fresh)
        for key in (paused, done, waiting, fresh):
            self.assert_raises(hub, InvalidPolicy, "value", key, hub.pick, key)
        for key in (job(7), ("job", (True,)), None, ["job"], "oldest"):
            self.assert_raises(hub, UnknownTask, "key", key, hub.pick, key)

    def test_a_stuck_task_makes_no_step(self):
        hub = Hub(PROGRAM)
        key = hub.ask("ann", "self")
        self.assertEqual((hub.run(9), hub.state(key), hub.clock), (1, "waiting", 2))
        self.assert_raises(hub, InvalidPolicy, "value", key, hub.pick, key)


class RestTest(HubCase):
    def test_grows_while_paused(self):
        hub = Hub(PROGRAM)
        hub.drop("ann", hub.ask("ann", "job", 1))
        for rest in range(10):
            self.assertEqual(hub.rest(job(1)), rest)
            hub.tick()
        self.assertEqual((hub.rest(job(1)), hub.tasks), (10, [job(1)]))
        hub.tick()
        self.assertEqual(hub.tasks, [])

    def test_only_ticks_change_it(self):
        hub = Hub(PROGRAM)
        hub.drop("ann", hub.ask("ann", "job", 1))
        hub.run(1)
        hub.run(1)
        hub.ask("ann", "job", 1)
        self.assertEqual(hub.rest(job(1)), 2)
        hub.drop("ann", job(1))
        self.assertEqual(hub.rest(job(1)), 2)
        hub.tick()
        self.assertEqual(hub.rest(job(1)), 3)
        hub.ask("ann", "job", 1)
        hub.tick()
        self.assertEqual(hub.rest(job(1)), 0)
        hub.drop("ann", job(1))
        hub.tick()
        self.assertEqual(hub.rest(job(1)), 1)

    def test_becomes_0_of_those_that_wait_and_that_others_want(self):
        hub = Hub(PROGRAM)
        hub.ask("ann", "boss", 1)
        hub.tick()
        hub.drop("ann", boss(1))
        hub.tick()
        self.assertEqual([hub.rest(key) for key in hub.tasks], [1, 1])
        hub.ask("ann", "boss", 1)
        hub.ask("ann", "job", 2)
        hub.pick(job(2))
        self.assertEqual([hub.rest(key) for key in hub.tasks], [0, 0, 0])

    def test_is_counted_behind_the_step(self):
        program = parse_program("plan p\n  call x q()\n  drop x\n  work 1\nresult 0\nplan q\n  work 1\nresult 0")
        hub = Hub(program, patience=1)
        hub.ask("ann", "p")
        hub.tick()
        self.assertEqual(hub.rest(("q", ())), 0)
        hub.tick()
        self.assertEqual(hub.rest(("q", ())), 1)
        hub.tick()
        self.assertEqual(hub.tasks, [("p", ())])

    def test_patience_0(self):
        program = parse_program("plan p\n  call x q()\n  drop x\nresult 0\nplan q\n  work 1\nresult 0")
        hub = Hub(program, patience=0)
        hub.ask("ann", "p")
        hub.tick()
        self.assertEqual(len(hub), 2)
        hub.tick()
        self.assertEqual(hub.tasks, [("p", ())])
        hub.drop("ann", ("p", ()))
        self.assertEqual(hub.tasks, [("p", ())])
        hub.tick()
        self.assertEqual(hub.tasks, [])

    def test_forgotten_exactly_when_greater_than_the_patience(self):
        for patience in (0, 1, 3, 1000):
            hub = Hub(PROGRAM, patience=patience)
            hub.drop("ann", hub.ask("ann", "job", 1))
            hub.run(1)
            for _ in range(patience - 1):
                hub.tick()
            if patience > 0:
                self.assertEqual((hub.tasks, hub.rest(job(1))), ([job(1)], patience))
                hub.tick()
            self.assertEqual((hub.tasks, len(hub), hub.clock), ([], 0, patience + 1))

    def test_a_forgotten_task_is_unknown(self):
        hub = Hub(PROGRAM, patience=0)
        hub.drop("ann", hub.ask("ann", "job", 1))
        hub.tick()
        self.assertIs(job(1) in hub, False)
        for name in ("state", "result_of", "reason_of", "holds", "steps", "work_of", "rest", "pick"):
            with self.assertRaises(UnknownTask):
                getattr(hub, name)(job(1))

    def test_a_forgotten_task_begins_anew(self):
        hub = Hub(PROGRAM, patience=1)
        hub.ask("ann", "job", 1)
        hub.ask("ann", "duty", 1)
        hub.tick()
        hub.tick()
        hub.drop("ann", job(1))
        hub.tick()
        hub.tick()
        self.assertEqual(hub.tasks, [duty(1)])
        hub.ask("ann", "job", 1)
        self.assertEqual((hub.state(job(1)), hub.steps(job(1)), hub.work_of(job(1)), hub.rest(job(1))), ("new", 0, 0, 0))
        self.assertEqual((hub.tasks, hub.cost), ([duty(1), job(1)], 4))
        hub.drop("ann", job(1))
        hub.tick()
        self.assertEqual(hub.rest(job(1)), 1)

    def test_what_is_forgotten_together(self):
        hub = Hub(PROGRAM, patience=2)
        hub.ask("ann", "chief", 1)
        hub.ask("ann", "job", 2)
        for key in (("chief", (1,)), boss(1), job(1)):
            hub.pick(key)
        hub.drop("ann", ("chief", (1,)))
        hub.tick()
        hub.tick()
        self.assertEqual((len(hub), [hub.rest(key) for key in hub.tasks]), (4, [2, 0, 2, 2]))
        hub.tick()
        self.assertEqual(hub.tasks, [job(2)])

    def test_a_must_that_made_no_step_is_forgotten(self):
        hub = Hub(PROGRAM, patience=0)
        hub.drop("ann", hub.ask("ann", "duty", 1))
        hub.tick()
        self.assertEqual(hub.tasks, [])

    def test_a_paused_holder_of_what_others_want(self):
        hub = Hub(PROGRAM, patience=1)
        hub.ask("ann", "boss", 1)
        hub.tick()
        hub.drop("ann", boss(1))
        hub.ask("bob", "job", 1)
        hub.tick()
        self.assertEqual([hub.rest(key) for key in hub.tasks], [1, 0])
        hub.tick()
        self.assertEqual(hub.tasks, [job(1)])
        self.assertEqual((hub.run(9), hub.shares), (2, {"bob": (3, 1)}))


class RaisedTest(HubCase):
    def test_the_order_of_errors(self):
        hub = Hub(PROGRAM)
        hub.ask("ann", "job", 1)
        before = seen(hub)
        with self.assertRaises(InvalidNumber):
            hub.run(None, None)
        with self.assertRaises(InvalidPolicy):
            hub.run(0, None)
        self.assertEqual(seen(hub), before)


if __name__ == "__main__":
    unittest.main()
