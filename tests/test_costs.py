"""Costs: who bears them, exactly."""

import unittest
from fractions import Fraction

from wantedwork.hubs import Hub
from wantedwork.language import parse_program

PROGRAM = parse_program("""plan job n
  work 6
  work 10
  work 1000
result n
must duty
  work 5
  work 7
result 0
plan boss n
  call x job(n)
  work 2
  wait 1 of x
result x
plan chief n
  call x boss(n)
  wait 1 of x
result x""")
JOB, DUTY = ("job", (1,)), ("duty", ())


class CostsTest(unittest.TestCase):
    def test_nothing_is_charged_without_work(self):
        hub = Hub(parse_program("plan p\n  v = 1\n  say a\nresult v"))
        key = hub.ask("ann", "p")
        hub.run(9)
        self.assertEqual((hub.cost, hub.shares, hub.work_of(key)), (0, {}, 0))

    def test_one_user_bears_all(self):
        hub = Hub(PROGRAM)
        hub.ask("ann", "job", 1)
        self.assertEqual((hub.cost, hub.shares, hub.work_of(JOB)), (0, {}, 0))
        hub.tick()
        self.assertEqual((hub.cost, hub.shares, hub.work_of(JOB)), (6, {"ann": (6, 1)}, 6))
        hub.run(9)
        self.assertEqual((hub.cost, hub.shares, hub.work_of(JOB)), (1016, {"ann": (1016, 1)}, 1016))

    def test_users_share_equally_in_lowest_terms(self):
        hub = Hub(PROGRAM)
        for user, urgency in (("cleo", 9), ("ann", 0), ("bob", 1)):
            hub.ask(user, "job", 1, urgency=urgency)
        hub.tick()
        self.assertEqual(list(hub.shares.items()), [("ann", (2, 1)), ("bob", (2, 1)), ("cleo", (2, 1))])
        hub.tick()
        self.assertEqual(list(hub.shares.items()), [("ann", (16, 3)), ("bob", (16, 3)), ("cleo", (16, 3))])
        hub.drop("ann", JOB)
        hub.tick()
        self.assertEqual(hub.shares, {"ann": (16, 3), "bob": (1516, 3), "cleo": (1516, 3)})
        self.assertEqual(hub.cost, 1016)

    def test_those_that_bear_nothing_are_not_listed(self):
        hub = Hub(PROGRAM)
        hub.ask("ann", "job", 1)
        hub.ask("bob", "job", 2)
        hub.tick()
        self.assertEqual(hub.shares, {"ann": (6, 1)})

    def test_a_user_that_comes_later_bears_what_follows(self):
        hub = Hub(PROGRAM)
        hub.ask("bob", "job", 1)
        hub.tick()
        hub.ask("ann", "job", 1)
        hub.tick()
        self.assertEqual(list(hub.shares.items()), [("ann", (5, 1)), ("bob", (11, 1))])

    def test_users_that_reach_through_tasks(self):
        hub = Hub(PROGRAM)
        hub.ask("ann", "chief", 1)
        hub.ask("bob", "boss", 1)
        hub.pick(("chief", (1,)))
        hub.pick(("boss", (1,)))
        hub.ask("cleo", "job", 1)
        hub.ask("dan", "boss", 2)
        hub.pick(JOB)
        self.assertEqual(hub.shares, {"ann": (2, 1), "bob": (2, 1), "cleo": (2, 1)})
        # Those above a task do not bear for it what only those below it are wanted for.
        hub.pick(("boss", (1,)))
        self.assertEqual(hub.shares, {"ann": (3, 1), "bob": (3, 1), "cleo": (2, 1)})
        hub.drop("ann", ("chief", (1,)))
        hub.pick(JOB)
        self.assertEqual(hub.shares, {"ann": (3, 1), "bob": (8, 1), "cleo": (7, 1)})

    def test_a_user_counts_once(self):
        hub = Hub(PROGRAM)
        hub.ask("ann", "chief", 1)
        hub.ask("ann", "boss", 1)
        hub.ask("ann", "job", 1)
        hub.ask("bob", "job", 1)
        for key in (("chief", (1,)), ("boss", (1,)), JOB):
            hub.pick(key)
        self.assertEqual(hub.shares, {"ann": (3, 1), "bob": (3, 1)})

    def test_users_do_not_reach_through_tasks_that_are_over(self):
        program = parse_program("plan p\n  call x q()\n  fail 1\nresult 0\nplan q\n  work 3\nresult 0")
        hub = Hub(program)
        hub.ask("ann", "p")
        hub.run(2)
        hub.ask("bob", "q")
        hub.run(9)
        self.assertEqual(hub.shares, {"bob": (3, 1)})

    def test_a_dropped_variable_reaches_no_more(self):
        program = parse_program("plan p\n  call x q()\n  drop x\n  work 1\nresult 0\nplan q\n  work 3\nresult 0")
        hub = Hub(program)
        hub.ask("ann", "p")
        hub.run(2)
        hub.ask("bob", "q")
        hub.run(9)
        self.assertEqual(hub.shares, {"ann": (1, 1), "bob": (3, 1)})

    def test_the_house_comes_last(self):
        hub = Hub(PROGRAM)
        hub.ask("zed", "duty")
        hub.tick()
        hub.drop("zed", DUTY)
        hub.run(9)
        self.assertEqual(list(hub.shares.items()), [("zed", (5, 1)), (None, (7, 1))])
        hub.ask("ann", "job", 1)
        hub.tick()
        self.assertEqual(list(hub.shares.items()), [("ann", (6, 1)), ("zed", (5, 1)), (None, (7, 1))])

    def test_the_house_alone(self):
        hub = Hub(parse_program("must p\n  say a\n  work 3\nresult 0"))
        key = hub.ask("ann", "p")
        hub.tick()
        hub.drop("ann", key)
        hub.run(9)
        self.assertEqual((hub.shares, hub.cost, hub.work_of(key)), ({None: (3, 1)}, 3, 3))

    def test_a_must_with_users_is_borne_by_them(self):
        hub = Hub(PROGRAM)
        for user in ("ann", "bob"):
            hub.ask(user, "duty")
        hub.run(9)
        self.assertEqual(hub.shares, {"ann": (6, 1), "bob": (6, 1)})

    def test_forgotten_work_is_still_paid(self):
        hub = Hub(PROGRAM, patience=0)
        hub.ask("ann", "job", 1)
        hub.tick()
        hub.drop("ann", JOB)
        hub.tick()
        hub.ask("bob", "job", 1)
        self.assertEqual((hub.cost, hub.shares, hub.work_of(JOB)), (6, {"ann": (6, 1)}, 0))
        hub.tick()
        self.assertEqual((hub.cost, hub.shares, hub.work_of(JOB)), (12, {"ann": (6, 1), "bob": (6, 1)}, 6))

    def test_all_shares_are_all_cost(self):
        users = [first + second for first in "abcdefg" for second in "xyz"]
        hub = Hub(PROGRAM)
        for many, user in enumerate(users):
            for number in range(many % 5, 40, many + 3):
                hub.ask(user, "job", number)
        hub.run(10000, "fair")
        shares = hub.shares
        self.assertEqual(sum([Fraction(*share) for share in shares.values()]), hub.cost)
        self.assertEqual(list(shares), users)
        for numerator, denominator in shares.values():
            fraction = Fraction(numerator, denominator)
            self.assertEqual((fraction.numerator, fraction.denominator), (numerator, denominator))
        self.assertEqual(sum([hub.work_of(key) for key in hub.tasks]), hub.cost)


if __name__ == "__main__":
    unittest.main()
