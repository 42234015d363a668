"""Accounts of hubs, which lists are some, and the shares that follow from them."""

import unittest
from random import Random

import slow_accounts
from observing import Contrary, NO_WORDS, deep_tuple, seen
from pairs import Pair
from wantedwork.accounts import account, is_account, shares_of
from wantedwork.errors import InvalidLog
from wantedwork.hubs import Hub
from wantedwork.language import parse_program

M = 1000000007
PROGRAM = parse_program("""plan job n
  work 1
  work 2
result n
must duty
  work 5
  fail 3
result 0
plan boss n
  call x job(n)
  work 4
  wait 1 of x
result x
plan both n
  call x job(n + 1)
  call y job(n)
  call x job(n + 2)
  wait 2 of x, y
result x
plan self
  call x self()
  wait 1 of x
result x""")
JOB, BOSS, BOTH, DUTY = ("job", (1,)), ("boss", (1,)), ("both", (1,)), ("duty", ())
IDLE = ("idle",)


def job(number):
    return "job", (number,)


def step(key, held=(), cost=0, end="", must=False):
    return "step", key, held, cost, end, must


def ask(key, user="ann", urgency=0):
    return "ask", user, key, urgency


class AccountTest(unittest.TestCase):
    def hub(self, *keys, patience=10):
        hub = Hub(PROGRAM, patience=patience)
        for key in keys:
            hub.ask("ann", key[0], *key[1])
        return hub

    def test_without_deeds(self):
        self.assertEqual(account(Hub(PROGRAM)), [])

    def test_handles(self):
        hub = Hub(PROGRAM)
        hub.ask("ann", "job", 1, urgency=3)
        hub.ask("ann", "job", 1)
        hub.ask("bob", "duty", urgency=9)
        hub.pass_on("ann", "bob", JOB)
        hub.pass_on("bob", "bob", JOB)
        hub.drop("bob", DUTY)
        self.assertEqual(account(hub), [
            ("ask", "ann", JOB, 3), ("ask", "ann", JOB, 0), ("ask", "bob", DUTY, 9), ("pass", "ann", "bob", JOB),
            ("pass", "bob", "bob", JOB), ("drop", "bob", DUTY),
        ])

    def test_steps(self):
        hub = self.hub(JOB)
        hub.run(9)
        self.assertEqual(account(hub), [ask(JOB), step(JOB, cost=1), step(JOB, cost=2), step(JOB, end="done"), IDLE])

    def test_a_task_that_must_finish_and_fails(self):
        hub = self.hub(DUTY)
        hub.tick("fair")
        hub.drop("ann", DUTY)
        hub.pick(DUTY)
        self.assertEqual(account(hub), [ask(DUTY), step(DUTY, (), 5, "", True), ("drop", "ann", DUTY),
                                        step(DUTY, (), 0, "failed", True)])

    def test_what_is_held_is_told_by_the_numbers(self):
        hub = self.hub(job(3), BOTH)
        hub.pick(BOTH)
        hub.pick(BOTH)
        hub.pick(BOTH)
        self.assertEqual(account(hub)[2:], [step(BOTH, (job(2),)), step(BOTH, (job(2), JOB)), step(BOTH, (job(3), JOB))])
        hub.run(3 + 3 + 2)
        self.assertEqual(account(hub)[-5:], [step(JOB, cost=1), step(JOB, cost=2), step(JOB, end="done"), step(BOTH),
                                             step(BOTH, end="done")])

    def test_a_task_that_holds_itself(self):
        hub = self.hub(("self", ()))
        hub.run(9)
        self.assertEqual(account(hub), [ask(("self", ())), step(("self", ()), (("self", ()),)), IDLE])

    def test_all_policies_and_picks(self):
        hub = self.hub(JOB, job(2), job(3))
        for policy in ("newest", "fair", "urgent", "oldest"):
            hub.tick(policy)
        hub.pick(job(2))
        self.assertEqual([told[1] for told in account(hub)[3:]], [job(3), JOB, JOB, JOB, job(2)])

    def test_tasks_that_are_forgotten(self):
        hub = self.hub(JOB, patience=0)
        hub.tick()
        hub.drop("ann", JOB)
        hub.tick()
        hub.ask("bob", "job", 1)
        hub.tick()
        told = [ask(JOB), step(JOB, cost=1), ("drop", "ann", JOB), IDLE, ask(JOB, "bob"), step(JOB, cost=1)]
        self.assertEqual(account(hub), told)
        self.assertIs(is_account(told, 0), True)

    def test_it_changes_nothing_and_is_new(self):
        hub = self.hub(JOB)
        hub.run(2)
        before = seen(hub)
        told = account(hub=hub)
        told.append(None)
        self.assertEqual((seen(hub), account(hub)), (before, told[:-1]))
        self.assertIs(type(told[0]), tuple)

    def test_within_a_trial(self):
        hub = self.hub(JOB)
        with hub.trial():
            hub.tick()
            self.assertEqual(account(hub), [ask(JOB), step(JOB, cost=1)])
        self.assertEqual(account(hub), [ask(JOB)])

    def test_accounts_of_drawn_hubs(self):
        for seed in range(300):
            pair = Pair(self, seed)
            for _ in range(pair.random.randint(0, 80)):
                pair.deed()
            hub, before = pair.hub, seen(pair.hub)
            told = account(hub)
            self.assertIs(is_account(told, hub.patience), True)
            self.assertEqual(list(shares_of(told, hub.patience).items()), list(hub.shares.items()))
            self.assertEqual(slow_accounts.told(told, hub.patience), list(hub.shares.items()))
            self.assertEqual((len(told), seen(hub)), (len(hub.log), before))
            self.check_steps(hub, told)

    def check_steps(self, hub, told):
        """Do the deeds again, and compare each tuple with what is seen then."""
        again, clock = Hub(hub.program, patience=hub.patience), 0
        for deed, item in zip(hub.log, told):
            steps, cost = {key: again.steps(key) for key in again.tasks}, again.cost
            if deed[0] == "ask":
                again.ask(deed[1], deed[2], *deed[3], urgency=deed[4])
                self.assertEqual(item, ("ask", deed[1], deed[2:4], deed[4]))
            elif deed[0] in ("drop", "pass"):
                (again.drop if deed[0] == "drop" else again.pass_on)(*deed[1:])
                self.assertEqual(item, deed)
            else:
                (again.tick if deed[0] == "tick" else again.pick)(deed[1])
                made = [key for key in again.tasks if again.steps(key) > steps.get(key, 0)]
                clock += 1
                self.assertEqual(again.clock, clock)
                if not made:
                    self.assertEqual(item, IDLE)
                    continue
                end = again.state(made[0]) if again.state(made[0]) in ("done", "failed") else ""
                self.assertEqual([made[0], tuple(again.holds(made[0])), again.cost - cost, end], list(item[1:5]))
                self.assertIs(item[5], hub.program[made[0][0]].must_finish)


class AccountCase(unittest.TestCase):
    def assert_account(self, value, shares=None, patience=10):
        """Check that a list is an account, as each beginning of it is."""
        self.assertIs(is_account(value, patience), True)
        self.assertEqual(slow_accounts.told(value, patience), list(shares_of(value, patience).items()))
        if shares is not None:
            self.assertEqual(list(shares_of(value, patience).items()), shares)
        for length in range(len(value)):
            self.assertIs(is_account(value[:length], patience), True)

    def assert_none(self, index, value, patience=10):
        """Check that a value is no account by the tuple at an index."""
        self.assertIs(is_account(value, patience), False)
        with self.assertRaises(InvalidLog) as caught:
            shares_of(value, patience)
        self.assertIs(type(caught.exception), InvalidLog)
        self.assertEqual(caught.exception.index, index)
        if isinstance(value, list):
            self.assertIs(is_account(value[:index], patience), True)
            self.assertIs(is_account(value[:index + 1], patience), False)

    def assert_last(self, *told, patience=10):
        """Check that tuples are no account by the last one."""
        self.assert_none(len(told) - 1, list(told), patience)
        self.assert_none(len(told) - 1, list(told) + [None, IDLE], patience)


class FormsTest(AccountCase):
    def test_no_lists(self):
        for value in (None, 0, True, "", "idle", (), (IDLE,), {}, {0: IDLE}, {IDLE}, IDLE, object(), Contrary(), list):
            self.assert_none(None, value)

    def test_by_name(self):
        self.assertIs(is_account(patience=3, value=[ask(JOB)]), True)
        self.assertEqual(shares_of(patience=3, value=[ask(JOB), step(JOB, cost=3)]), {"ann": (3, 1)})

    def test_an_empty_list(self):
        for patience in (0, 10, 1000):
            self.assert_account([], [], patience)

    def test_no_tuples(self):
        for value in (None, 0, True, "idle", "", [], ["idle"], {"idle": 1}, {"idle"}, object(), Contrary(), ["drop", "ann", JOB],
                      ["ask", "bob", JOB, 0], ["step", JOB, (), 0, "", False], ["pass", "ann", "bob", JOB]):
            self.assert_last(ask(JOB), value)

    def test_no_forms(self):
        for value in ((), ("idle", 1), ("Idle",), ("tick",), ("tick", "oldest"), ("pick", JOB), ("idle", ""), (IDLE,), (None,), (1,),
                      (Contrary(),), (["idle"],), ((),), deep_tuple(), (b"idle",), ("ask",), ("ask", "ann", JOB),
                      ("ask", "ann", JOB, 0, 0), ("ask", "ann", "job", (1,), 0), ("drop", "ann"), ("drop", "ann", JOB, 0),
                      ("drop", JOB), ("pass", "ann", JOB), ("pass", "ann", "bob", "cleo", JOB), ("step", JOB), ("step",),
                      ("step", JOB, (), 0, ""), ("step", JOB, (), 0, "", False, 0), ("", JOB), ("done", JOB)):
            self.assert_last(ask(JOB), value)

    def test_users(self):
        for user in ("a", "abcdefgh", "ask", "idle"):
            self.assert_account([ask(JOB, user), ("pass", user, user, JOB), ("drop", user, JOB)])
        for user in NO_WORDS:
            self.assert_last(ask(JOB), ask(JOB, user))
            self.assert_last(ask(JOB), ("drop", user, JOB))
            self.assert_last(ask(JOB), ("pass", user, "bob", JOB))
            self.assert_last(ask(JOB), ("pass", "ann", user, JOB))

    def test_keys(self):
        for key in (("a", ()), ("abcdefgh", (0,)), ("b", (1, 2)), ("b", (1,)), ("c", (M - 1, 0, M - 1)), ("step", ()), ("idle", (3,))):
            self.assert_account([ask(key), ("pass", "ann", "bob", key), step(key, (key,)), ("drop", "bob", key)])
            self.assert_account([ask(JOB), step(JOB, (key,)), step(key)])
        for key in (None, 0, "job", "job(1)", (), ("job",), ("job", 1), ("job", [1]), ["job", (1,)], ("job", (1,), ()),
                    ("job", (True,)), ("job", (1.0,)), ("job", ("1",)), ("job", (None,)), ("job", (-1,)), ("job", (M,)),
                    ("job", (1, 2, 3, 4)), ("job", (1,) * 9), ("Job", (1,)), ("", (1,)), ("ninechars", (1,)), (None, (1,)),
                    (("job",), (1,)), (["job"], (1,)), (b"job", (1,)), Contrary(), ("job", Contrary()), (Contrary(), (1,)),
                    ("job", (Contrary(),)), ("job", ([],)), {"job": (1,)}, object(), deep_tuple(), ("job", deep_tuple())):
            self.assert_last(ask(JOB), ask(key))
            self.assert_last(ask(JOB), ("drop", "ann", key))
            self.assert_last(ask(JOB), ("pass", "ann", "bob", key))
            self.assert_last(ask(JOB), step(key))
            self.assert_last(ask(JOB), step(JOB, (key,)))
            self.assert_last(ask(JOB), step(JOB, (JOB,)), step(JOB, (JOB, key)))

    def test_urgencies(self):
        for urgency in range(10):
            self.assert_account([ask(JOB, "ann", urgency)])
        for urgency in (-1, 10, True, False, None, 1.0, "1", (1,), [1], Contrary()):
            self.assert_last(ask(JOB), ask(JOB, "ann", urgency))

    def test_held(self):
        for held in (None, 0, "", [], [JOB], JOB, {}, {JOB: 1}, {JOB}, Contrary(), object(), "job", (None,), ((),)):
            self.assert_last(ask(JOB), step(JOB, held))

    def test_costs(self):
        for cost in (0, 1, 999, 1000):
            self.assert_account([ask(JOB), step(JOB, (), cost)], [("ann", (cost, 1))] if cost else [])
        for cost in (-1, 1001, 10 ** 59, True, False, None, 1.0, "1", (1,), [1], Contrary()):
            self.assert_last(ask(JOB), step(JOB, (), cost))

    def test_ends(self):
        for end in ("", "done", "failed"):
            self.assert_account([ask(JOB), step(JOB, end=end)])
        for end in (None, True, 0, "Done", "over", "new", "ready", "waiting", " ", b"done", (), ("done",), ["done"], Contrary()):
            self.assert_last(ask(JOB), step(JOB, end=end))

    def test_must(self):
        for must in (True, False):
            self.assert_account([ask(JOB), step(JOB, must=must)])
        for must in (0, 1, None, "", "True", (), [True], Contrary(), 1.0):
            self.assert_last(ask(JOB), step(JOB, must=must))


class HandlesTest(AccountCase):
    def test_dropped_ones_are_there(self):
        self.assert_account([ask(JOB), ("drop", "ann", JOB), ask(JOB), ("drop", "ann", JOB)])
        self.assert_account([ask(JOB), ask(JOB, "bob"), ("drop", "bob", JOB), ("drop", "ann", JOB)])
        self.assert_last(("drop", "ann", JOB))
        self.assert_last(ask(JOB), ("drop", "bob", JOB))
        self.assert_last(ask(JOB), ("drop", "ann", job(2)))
        self.assert_last(ask(JOB), ask(JOB), ("drop", "ann", JOB), ("drop", "ann", JOB))
        self.assert_last(ask(JOB), step(JOB, (job(2),)), ("drop", "ann", job(2)))

    def test_passed_ones_are_there(self):
        self.assert_account([ask(JOB), ("pass", "ann", "bob", JOB), ("drop", "bob", JOB)])
        self.assert_account([ask(JOB), ask(JOB, "bob"), ("pass", "ann", "bob", JOB), ("drop", "bob", JOB)])
        self.assert_account([ask(JOB), ("pass", "ann", "ann", JOB), ("drop", "ann", JOB)])
        self.assert_last(("pass", "ann", "bob", JOB))
        self.assert_last(("pass", "ann", "ann", JOB))
        self.assert_last(ask(JOB), ("pass", "bob", "ann", JOB))
        self.assert_last(ask(JOB), ("pass", "bob", "bob", JOB))
        self.assert_last(ask(JOB), ("pass", "ann", "bob", job(2)))
        self.assert_last(ask(JOB), ("pass", "ann", "bob", JOB), ("drop", "ann", JOB))
        self.assert_last(ask(JOB), ask(JOB, "bob"), ("pass", "ann", "bob", JOB), ("drop", "bob", JOB), ("drop", "bob", JOB))

    def test_handles_for_tasks_that_are_over(self):
        over = [ask(JOB), step(JOB, end="done")]
        self.assert_account(over + [ask(JOB, "bob"), ("drop", "ann", JOB)] + [IDLE] * 20 + [("drop", "bob", JOB)])
        self.assert_account(over + [("drop", "ann", JOB), ask(JOB), ("pass", "ann", "bob", JOB)])

    def test_handles_of_a_task_that_was_forgotten(self):
        gone = [ask(JOB), ("drop", "ann", JOB), IDLE]
        self.assert_last(*gone, ("drop", "ann", JOB), patience=0)
        self.assert_account(gone + [ask(JOB), ("drop", "ann", JOB)], patience=0)


class WantedTest(AccountCase):
    def test_tasks_that_are_there_and_that_a_user_holds(self):
        self.assert_account([ask(JOB), step(JOB), step(JOB), ("pass", "ann", "bob", JOB), step(JOB)])
        self.assert_last(step(JOB))
        self.assert_last(ask(JOB), step(job(2)))
        self.assert_last(ask(JOB), ("drop", "ann", JOB), step(JOB))
        self.assert_last(ask(JOB), ask(JOB, "bob"), ("drop", "ann", JOB), step(JOB), ("drop", "bob", JOB), step(JOB))

    def test_tasks_that_are_over(self):
        for end in ("done", "failed"):
            self.assert_last(ask(JOB), step(JOB, end=end), step(JOB))
            self.assert_last(ask(JOB), step(JOB, end=end), ask(JOB, "bob"), step(JOB))
            self.assert_last(ask(JOB), step(JOB, end=end, must=True), step(JOB, must=True))
            self.assert_last(ask(BOSS), step(BOSS, (JOB,)), step(JOB, end=end), step(JOB))

    def test_what_wanted_tasks_hold(self):
        held = [ask(BOSS), step(BOSS, (JOB,)), step(JOB, (job(2),)), step(job(2), (job(3),)), step(job(3))]
        self.assert_account(held)
        self.assert_last(*held, ("drop", "ann", BOSS), step(job(3)))
        self.assert_account(held + [("drop", "ann", BOSS), ask(JOB), step(job(3))])
        self.assert_last(*held, ("drop", "ann", BOSS), ask(JOB), step(BOSS))
        self.assert_last(*held, step(BOSS), step(JOB))
        self.assert_last(*held, step(JOB, end="done"), step(job(2)))
        self.assert_last(*held, step(JOB, end="failed"), step(job(3)))
        self.assert_account(held + [step(job(2), end="done"), step(JOB), step(BOSS)])

    def test_tasks_that_must_finish(self):
        self.assert_account([ask(DUTY), step(DUTY, must=True), ("drop", "ann", DUTY), step(DUTY, must=True)] + [IDLE] * 30
                            + [step(DUTY, must=True)])
        self.assert_last(ask(DUTY), ("drop", "ann", DUTY), step(DUTY, must=True))
        self.assert_last(ask(DUTY), step(DUTY), ("drop", "ann", DUTY), step(DUTY))
        begun = [ask(DUTY), step(DUTY, (JOB,), must=True), ("drop", "ann", DUTY), step(JOB, cost=3)]
        self.assert_account(begun, [(None, (3, 1))])
        self.assert_last(*begun, step(DUTY, end="done", must=True), step(JOB))
        other = ("duty", (2,))
        # Another task of the plan is not wanted before it has made a step.
        self.assert_last(ask(DUTY), ask(other), step(DUTY, must=True), ("drop", "ann", DUTY), ("drop", "ann", other),
                         step(DUTY, must=True), step(other, must=True))

    def test_rings(self):
        ring = [ask(JOB), step(JOB, (job(2),)), step(job(2), (JOB,))]
        self.assert_account(ring + [step(JOB, (job(2),)), step(job(2), (JOB,))])
        self.assert_last(*ring, ("drop", "ann", JOB), step(JOB, (job(2),)))
        self.assert_last(*ring, ("drop", "ann", JOB), step(job(2), (JOB,)))
        self.assert_last(*ring, ("drop", "ann", JOB), IDLE, step(JOB, (job(2),)), patience=0)
        self.assert_account(ring + [("drop", "ann", JOB), ask(job(2), "bob"), step(JOB, (job(2),), 4)], [("bob", (4, 1))])
        alone = [ask(JOB), step(JOB, (JOB,)), step(JOB, (JOB,), 2)]
        self.assert_account(alone, [("ann", (2, 1))])
        self.assert_last(*alone, ("drop", "ann", JOB), step(JOB, (JOB,)))
        self.assert_last(*alone, step(JOB, end="done"), step(JOB))


class HoldingTest(AccountCase):
    def setUp(self):
        # The boss holds three jobs, which were created in the order 2, 1, 3.
        self.full = (job(2), JOB, job(3))
        self.told = [ask(job(2)), ask(BOSS), step(BOSS, (job(2),)), step(BOSS, (job(2), JOB)), step(BOSS, self.full)]

    def test_the_order_is_that_of_the_creation(self):
        self.assert_account(self.told)
        for held in ((JOB, job(2), job(3)), (job(2), job(3), JOB), (job(3), JOB, job(2)), (job(3), job(2), JOB)):
            self.assert_last(*self.told, step(BOSS, held))
        self.assert_account(self.told + [step(BOSS, (job(2), job(3)))])
        self.assert_last(*self.told, step(BOSS, (job(3), job(2))))

    def test_a_new_task_is_the_last_one(self):
        self.assert_last(*self.told[:4], step(BOSS, (job(3), job(2), JOB)))
        self.assert_last(*self.told[:4], step(BOSS, (job(2), job(3), JOB)))
        self.assert_account(self.told[:4] + [step(BOSS, self.full)])
        # One that is there already stands where it was created.
        there = [*self.told[:2], ask(job(3)), *self.told[2:4]]
        self.assert_account(there + [step(BOSS, (job(2), job(3), JOB))])
        self.assert_last(*there, step(BOSS, (job(2), JOB, job(3))))
        self.assert_account(self.told + [step(BOSS, (BOSS, JOB, job(3)))])
        self.assert_last(*self.told, step(BOSS, (JOB, BOSS, job(3))))

    def test_keys_are_different(self):
        for held in ((JOB, JOB), (job(2), job(2), JOB), (job(2), JOB, JOB), (job(2), JOB, job(3), job(3))):
            self.assert_last(*self.told, step(BOSS, held))
        self.assert_last(ask(BOSS), step(BOSS, (JOB, JOB)))
        self.assert_last(ask(BOSS), step(BOSS, (BOSS, BOSS)))

    def test_a_step_adds_at_most_one(self):
        self.assert_account(self.told + [step(BOSS, (*self.full, job(4)))])
        self.assert_account(self.told + [step(BOSS, (job(2), BOSS, JOB, job(3)))])
        self.assert_last(*self.told, step(BOSS, (*self.full, job(4), job(5))))
        self.assert_last(*self.told, step(BOSS, (job(2), BOSS, JOB, job(3), job(4))))
        self.assert_last(ask(BOSS), step(BOSS, (JOB, job(2))))
        self.assert_last(ask(BOSS), ask(JOB), ask(job(2)), step(BOSS, (JOB, job(2))))

    def test_a_step_that_adds_one_takes_at_most_one_away(self):
        self.assert_account(self.told + [step(BOSS, (job(2), JOB, job(4)))])
        self.assert_account(self.told + [step(BOSS, (job(2), BOSS, JOB))])
        self.assert_last(*self.told, step(BOSS, (job(3), job(4))))
        self.assert_last(*self.told, step(BOSS, (job(2), BOSS)))
        self.assert_last(*self.told, step(BOSS, (job(4),)))
        self.assert_account(self.told[:3] + [step(BOSS, (job(4),))])
        self.assert_last(*self.told[:4], step(BOSS, (job(4),)))

    def test_a_step_that_adds_none_takes_any_number_away(self):
        for held in (self.full, (job(2), JOB), (JOB, job(3)), (job(2),), (JOB,), (job(3),), ()):
            self.assert_account(self.told + [step(BOSS, held)])
        self.assert_last(*self.told, step(BOSS, (JOB,)), step(BOSS, self.full))
        self.assert_account(self.told + [step(BOSS, (JOB,)), step(BOSS, (job(2), JOB)), step(BOSS, self.full)])

    def test_a_task_that_is_over_holds_none(self):
        for end in ("done", "failed"):
            self.assert_account(self.told + [step(BOSS, end=end)])
            self.assert_last(*self.told, step(BOSS, self.full, end=end))
            self.assert_last(*self.told, step(BOSS, (JOB,), end=end))
            self.assert_last(ask(BOSS), step(BOSS, (JOB,), end=end))
            self.assert_last(ask(BOSS), step(BOSS, (BOSS,), end=end))

    def test_what_is_held_changes_by_own_steps_only(self):
        # Between them, a task that is over stays held, and its handles are of no account.
        over = self.told + [step(JOB, end="done"), ("drop", "ann", job(2)), ask(job(7)), step(job(7)), IDLE]
        self.assert_account(over + [step(BOSS, self.full)])
        self.assert_account(over + [step(job(3)), step(job(2)), step(BOSS, (job(2), JOB, job(7)))])
        self.assert_last(*over, step(BOSS, (job(7), job(8))))

    def test_a_new_task_holds_none(self):
        self.assert_account([ask(BOSS), step(BOSS, ())])
        gone = [ask(BOSS), step(BOSS, (JOB,)), step(BOSS, (JOB, job(2))), ("drop", "ann", BOSS), IDLE, ask(BOSS)]
        self.assert_account(gone + [step(BOSS, (JOB, job(2)))], patience=1)
        # With less patience it was forgotten, and holds none of those that it held.
        self.assert_last(*gone, step(BOSS, (JOB, job(2))), patience=0)
        self.assert_account(gone + [step(BOSS, (JOB,))], patience=0)
        self.assert_last(*gone, step(JOB), patience=0)
        self.assert_account(gone + [step(JOB)], patience=1)


class ThereTest(AccountCase):
    def test_held_first_and_asked_for_later(self):
        held = [ask(BOSS), step(BOSS, (JOB,)), ask(job(9)), ask(JOB, "bob"), ("drop", "ann", BOSS), step(JOB, (), 4)]
        self.assert_account(held, [("bob", (4, 1))])
        # Its number is that of the step, not that of the wish.
        self.assert_account(held[:4] + [step(BOSS, (JOB, job(9)))])
        self.assert_last(*held[:4], step(BOSS, (job(9), JOB)))

    def test_asked_for_first_and_held_later(self):
        asked = [ask(job(9)), ask(JOB, "bob"), ask(BOSS), step(BOSS, (JOB,)), ("drop", "bob", JOB)]
        self.assert_account(asked + [step(JOB, (), 4)], [("ann", (4, 1))])
        self.assert_account(asked + [step(BOSS, (job(9), JOB))])
        self.assert_last(*asked, step(BOSS, (JOB, job(9))))

    def test_forgotten_exactly_when_the_rest_is_greater_than_the_patience(self):
        for patience in (0, 1, 2, 10, 1000):
            paused = [ask(BOSS), ask(JOB), ("drop", "ann", BOSS)]
            # The boss is asked for again: if it is there yet, it is older than the job.
            for ticks, held in ((patience, (BOSS, JOB)), (patience + 1, (JOB, BOSS))):
                told = paused + [IDLE] * ticks + [ask(BOSS), step(JOB, held[:1]), step(JOB, held)]
                self.assertIs(is_account(told, patience), True)
                told[-2:] = [step(JOB, held[1:]), step(JOB, held[::-1])]
                self.assert_none(len(told) - 1, told, patience)

    def test_forgotten_and_anew(self):
        told = [ask(JOB), step(JOB, (), 1), ("drop", "ann", JOB), IDLE, IDLE, ask(JOB, "bob"), step(JOB, (), 2)]
        for patience in (0, 1, 2):
            self.assert_account(told, [("ann", (1, 1)), ("bob", (2, 1))], patience)
        # A task that is over is never forgotten.
        over = [ask(JOB), step(JOB, end="done"), ("drop", "ann", JOB), IDLE, IDLE, ask(JOB, "bob"), step(JOB, (), 2)]
        self.assert_last(*over, patience=0)

    def test_one_that_must_finish_begins_anew(self):
        told = [ask(DUTY), ("drop", "ann", DUTY), IDLE, IDLE, ask(DUTY), ("drop", "ann", DUTY)]
        self.assert_last(*told, step(DUTY, must=True), patience=0)
        begun = [ask(DUTY), step(DUTY, must=True), ("drop", "ann", DUTY), IDLE, IDLE, step(DUTY, must=True)]
        self.assert_account(begun, patience=0)

    def test_rests_grow_at_steps_of_others_too(self):
        told = [ask(JOB), ask(job(2)), ("drop", "ann", JOB), step(job(2)), step(job(2)), ask(JOB), step(job(2), (JOB,))]
        # If the job is forgotten, the second one is older than the new one.
        self.assert_account(told + [step(job(2), (JOB, job(2)))], patience=2)
        self.assert_account(told + [step(job(2), (job(2), JOB))], patience=1)
        self.assert_last(*told, step(job(2), (job(2), JOB)), patience=2)
        self.assert_last(*told, step(job(2), (JOB, job(2))), patience=1)

    def test_rests_become_0(self):
        rested = [ask(JOB), ask(job(2)), ("drop", "ann", JOB), IDLE, ask(JOB), IDLE, ("drop", "ann", JOB), IDLE, ask(JOB)]
        self.assert_account(rested + [step(job(2), (JOB,)), step(job(2), (JOB, job(2)))], patience=1)
        # Deeds that are no ticks change no rest.
        rested = [ask(JOB), ask(job(2)), ("drop", "ann", JOB), IDLE, ask(JOB), ("drop", "ann", JOB), IDLE, ask(JOB)]
        self.assert_account(rested + [step(job(2), (JOB,)), step(job(2), (job(2), JOB))], patience=1)

    def test_rests_are_counted_behind_the_step(self):
        told = [ask(BOSS), step(BOSS, (JOB,)), step(BOSS), ask(JOB), step(BOSS, (JOB,))]
        # With no patience the job is forgotten at the tick at which it is let go.
        self.assert_account(told, patience=0)
        let = [ask(BOSS), step(BOSS, (JOB,)), ask(job(2)), step(BOSS), ask(JOB), step(BOSS, (JOB,))]
        self.assert_account(let + [step(BOSS, (job(2), JOB))], patience=0)
        self.assert_account(let + [step(BOSS, (JOB, job(2)))], patience=1)
        self.assert_last(*let, step(BOSS, (JOB, job(2))), patience=0)

    def test_more_than_500_tasks(self):
        self.assertIs(is_account([ask(job(number)) for number in range(700)], 10), True)


class MustTest(AccountCase):
    def test_it_is_the_same_in_all_steps_of_the_tasks_of_a_plan(self):
        for must in (True, False):
            told = [ask(JOB), ask(job(2)), step(JOB, must=must)]
            self.assert_account(told + [step(JOB, must=must), step(job(2), must=must)])
            self.assert_last(*told, step(JOB, must=not must))
            self.assert_last(*told, step(job(2), must=not must))
            self.assert_last(*told, step(job(2), end="done", must=not must))

    def test_also_if_the_tasks_have_other_numbers_of_numbers(self):
        told = [ask(JOB), ask(("job", ())), step(JOB, must=True)]
        self.assert_last(*told, step(("job", ())))
        self.assert_account(told + [step(("job", ()), must=True)])

    def test_also_if_the_first_one_was_forgotten(self):
        told = [ask(JOB), step(JOB), ("drop", "ann", JOB), IDLE, IDLE, ask(JOB)]
        self.assert_last(*told, step(JOB, must=True), patience=0)
        self.assert_account(told + [step(JOB)], patience=0)

    def test_plans_differ(self):
        self.assert_account([ask(JOB), ask(DUTY), step(JOB), step(DUTY, must=True), step(JOB), step(DUTY, must=True)])

    def test_only_steps_that_are_made_tell_it(self):
        self.assert_account([ask(JOB), ask(BOSS), step(JOB), step(BOSS, must=True)])


class SharesTest(AccountCase):
    def test_nothing(self):
        for told in ([], [ask(JOB), step(JOB)], [ask(JOB), step(JOB, (), 0, "done")], [IDLE]):
            self.assert_account(told, [])

    def test_users_share_in_lowest_terms_and_in_order(self):
        told = [ask(JOB, user) for user in ("zed", "ann", "bob")] + [step(JOB, (), 10), step(JOB, (), 5)]
        self.assert_account(told, [("ann", (5, 1)), ("bob", (5, 1)), ("zed", (5, 1))])
        self.assert_account(told[:-1], [("ann", (10, 3)), ("bob", (10, 3)), ("zed", (10, 3))])

    def test_the_house_comes_last(self):
        told = [ask(DUTY, "zed"), step(DUTY, (), 3, "", True), ("drop", "zed", DUTY), step(DUTY, (), 4, "", True), ask(JOB),
                step(JOB, (), 1)]
        self.assert_account(told, [("ann", (1, 1)), ("zed", (3, 1)), (None, (4, 1))])

    def test_users_that_reach_the_task_before_its_step(self):
        # The step that lets the job go, or ends the task, or takes up another one, is still borne by those above.
        told = [ask(BOSS), ask(JOB, "bob"), step(BOSS, (JOB,)), step(JOB, (BOSS,), 4)]
        self.assert_account(told, [("ann", (2, 1)), ("bob", (2, 1))])
        self.assert_account(told + [step(BOSS, (JOB,), 2)], [("ann", (3, 1)), ("bob", (3, 1))])
        self.assert_account(told + [step(JOB, (), 2, "done")], [("ann", (3, 1)), ("bob", (3, 1))])
        self.assert_account(told + [step(JOB, (), 0, "done"), step(BOSS, (JOB,), 2)], [("ann", (4, 1)), ("bob", (2, 1))])
        self.assert_account([ask(JOB), ask(job(2), "bob"), step(JOB, (job(2),), 2), step(job(2), (), 4)],
                            [("ann", (4, 1)), ("bob", (2, 1))])

    def test_users_that_reach_through_tasks(self):
        told = [ask(BOSS), step(BOSS, (JOB,)), step(JOB, (job(2),)), ask(JOB, "bob"), ask(job(3), "cleo"), step(job(2), (), 6)]
        self.assert_account(told, [("ann", (3, 1)), ("bob", (3, 1))])
        self.assert_account(told + [("drop", "bob", JOB), step(job(2), (), 6)], [("ann", (9, 1)), ("bob", (3, 1))])
        self.assert_account(told + [("pass", "bob", "ann", JOB), step(job(2), (), 6)], [("ann", (9, 1)), ("bob", (3, 1))])

    def test_users_do_not_reach_through_tasks_that_are_over_or_were_forgotten(self):
        told = [ask(BOSS), step(BOSS, (JOB,)), ask(JOB, "bob"), step(BOSS, end="failed"), step(JOB, (), 6)]
        self.assert_account(told, [("bob", (6, 1))])
        told = [ask(BOSS), step(BOSS, (JOB,)), ask(JOB, "bob"), ("drop", "ann", BOSS), IDLE, ask(BOSS), step(JOB, (), 6)]
        self.assert_account(told, [("bob", (6, 1))], patience=0)
        self.assert_account(told, [("ann", (3, 1)), ("bob", (3, 1))], patience=1)

    def test_it_is_new(self):
        told = [ask(JOB), step(JOB, (), 6)]
        shares_of(told, 10).clear()
        self.assertEqual((shares_of(told, 10), told), ({"ann": (6, 1)}, [ask(JOB), step(JOB, (), 6)]))

    def test_a_user_bears_nothing_of_no_cost(self):
        self.assert_account([ask(JOB), ask(JOB, "bob"), step(JOB), ("drop", "bob", JOB), step(JOB, (), 1)], [("ann", (1, 1))])
        self.assert_account([ask(DUTY), step(DUTY, must=True), ("drop", "ann", DUTY), step(DUTY, must=True)], [])


class Teller:
    """Makes tuples of accounts that mostly may follow on others, and changes some."""

    KEYS = (("a", ()), ("a", (1,)), ("b", ()), ("b", (0,)), ("b", (1,)), ("c", (1, 2, 3)))
    USERS = ("ann", "bob", "cleo")

    def __init__(self, random, patience):
        self.random, self.patience, self.told = random, patience, slow_accounts.ToldHub(patience)
        self.musts = {plan: random.random() < 0.4 for plan in "abc"}

    def item(self):
        """Return a tuple that may follow, or nearly so."""
        kind = self.random.choice(["ask"] * 3 + ["drop", "drop", "pass"] + ["step"] * 8 + ["idle"] * 2)
        wanted = [task.key for task in self.told.wanted()]
        if kind == "step" and wanted:
            return self.step(self.random.choice(wanted if self.random.random() < 0.99 else self.KEYS))
        if kind in ("drop", "pass") and self.told.handles:
            user, key = self.random.choice(self.told.handles)
            if self.random.random() < 0.02:
                user = self.random.choice(self.USERS)
            return ("drop", user, key) if kind == "drop" else ("pass", user, self.random.choice(self.USERS), key)
        if kind == "idle":
            return IDLE
        return ask(self.random.choice(self.KEYS), self.random.choice(self.USERS), self.random.randint(0, 9))

    def step(self, key):
        task = self.told.find(key)
        held = list(task.held) if task else []
        for _ in range(self.random.choice((0, 0, 0, 1, 1, 2))):
            if held:
                held.remove(self.random.choice(held))
        for _ in range(self.random.choice((0, 0, 1, 1, 1, 1, 2)) if self.random.random() < 0.3 else self.random.randint(0, 1)):
            held.append(self.random.choice(self.KEYS))
        if self.random.random() < 0.95:
            order = [other.key for other in self.told.tasks]
            held = sorted(set(held), key=lambda each: order.index(each) if each in order else len(order))
        end = self.random.choice(("", "", "", "", "", "", "done", "failed"))
        if end and self.random.random() < 0.95:
            held = []
        must = self.musts[key[0]] != (self.random.random() < 0.01)
        return step(key, tuple(held), self.random.choice((0, 0, 1, 2, 3, 1000)), end, must)

    def account(self, length):
        items = []
        for _ in range(length):
            item = self.item()
            if not self.told.goes_on(item):
                return items + [item] + [IDLE]
            items.append(item)
        return items

    def changed(self, value):
        """Return a list with a change at a drawn place."""
        value = list(value)
        at, other = self.random.randrange(len(value)), self.random.randrange(len(value))
        kind = self.random.randint(0, 6)
        if kind == 0:
            del value[at]
        elif kind == 1:
            value.insert(at, value[other])
        elif kind == 2:
            value[at], value[other] = value[other], value[at]
        elif kind == 3:
            value[at] = self.random.choice((IDLE, list(value[at]), value[at] + (0,), value[at][:-1], None, value[other]))
        else:
            value[at] = self.with_field(value[at])
        return value

    def with_field(self, item):
        """Return a tuple with another field."""
        if len(item) == 1:
            return item
        place = self.random.randrange(1, len(item))
        field = item[place]
        if isinstance(field, bool):
            field = self.random.choice((not field, not field, int(field), None))
        elif isinstance(field, int):
            field = self.random.choice((field + 1, 0, 9, 10, 1000, 1001, -1, True, str(field)))
        elif isinstance(field, str):
            field = self.random.choice(self.USERS + ("", "done", "failed", "Done", None))
        elif place == 2 and item[0] == "step":
            field = self.held(field)
        else:
            plan, numbers = field
            twin = (plan, tuple(number == 1 for number in numbers)), (plan, list(numbers)), (plan, (*numbers, 1)), [plan, numbers]
            field = self.random.choice(twin + self.KEYS + ((plan, (1, 2, 3, 4)),))
        return (*item[:place], field, *item[place + 1:])

    def held(self, field):
        kind = self.random.randint(0, 5)
        row = list(field)
        if kind == 0:
            row.append(self.random.choice(self.KEYS + tuple(task.key for task in self.told.tasks)))
        elif kind == 1 and row:
            row.remove(self.random.choice(row))
        elif kind == 2:
            self.random.shuffle(row)
        elif kind == 3 and row:
            row.append(row[0])
        elif kind == 4:
            return row
        else:
            row = row[::-1]
        return tuple(row)


class DrawnTest(AccountCase):
    def compare(self, value, patience, counts):
        """Compare what is told of a list with a slow reading."""
        expected = slow_accounts.told(value, patience)
        if isinstance(expected, list):
            self.assertIs(is_account(value, patience), True, (value, patience))
            self.assertEqual(list(shares_of(value, patience).items()), expected)
        else:
            self.assert_none(expected, value, patience)
        kind = isinstance(expected, list)
        counts[kind] = counts.get(kind, 0) + 1

    def test_drawn_lists(self):
        counts = {}
        for seed in range(1500):
            random = Random(seed)
            teller = Teller(random, random.choice((0, 0, 1, 2, 5)))
            value = teller.account(random.randint(1, 40))
            self.compare(value, teller.patience, counts)
            self.compare(value, random.choice((0, 1, 2, 3, 1000)), counts)
        self.assertTrue(counts[True] > 500 and counts[False] > 500, counts)

    def test_drawn_lists_that_were_changed(self):
        counts = {}
        for seed in range(1500):
            random = Random(seed)
            teller = Teller(random, random.choice((0, 0, 1, 2, 5)))
            value = teller.account(random.randint(1, 25))
            for _ in range(3):
                self.compare(teller.changed(value), teller.patience, counts)
        self.assertTrue(counts[True] > 500 and counts[False] > 500, counts)

    def test_accounts_of_hubs_that_were_changed(self):
        counts = {}
        for seed in range(250):
            pair = Pair(self, seed)
            for _ in range(pair.random.randint(2, 60)):
                pair.deed()
            value = account(pair.hub) or [IDLE]
            teller = Teller(pair.random, pair.hub.patience)
            for task in pair.model.tasks:
                teller.told.made(task.key)
            for _ in range(6):
                self.compare(teller.changed(value), pair.hub.patience, counts)
        self.assertTrue(counts[True] > 200 and counts[False] > 200, counts)


if __name__ == "__main__":
    unittest.main()
