"""Logs that are replayed and rehearsed."""

import unittest
from random import Random

from generating import random_program
from observing import Contrary, NO_INTEGERS, deep_tuple, seen
from pairs import Pair
from wantedwork.errors import (
    InvalidKey, InvalidLog, InvalidName, InvalidNumber, InvalidPolicy, InvalidProgram, LimitExceeded, NotHeld, UnknownTask,
)
from wantedwork.hubs import Hub
from wantedwork.language import parse_program
from wantedwork.logs import rehearsed, replayed

PROGRAM = parse_program("""plan job n
  work 1
  work 2
result n
must duty
  work 5
  say hello
result 0
plan boss n
  call x job(n)
  wait 1 of x
result x
plan add a b
result a + b
plan row n
  call x row(n + 1)
result 0""")
JOB, BOSS, DUTY = ("job", (1,)), ("boss", (1,)), ("duty", ())

LOG = [
    ("ask", "ann", "boss", (1,), 3),
    ("ask", "bob", "duty", (), 0),
    ("tick", "oldest"),
    ("ask", "bob", "job", (1,), 9),
    ("tick", "urgent"),
    ("pick", DUTY),
    ("pass", "bob", "cleo", JOB),
    ("drop", "ann", BOSS),
    ("tick", "newest"),
    ("pass", "cleo", "cleo", JOB),
    ("tick", "fair"),
    ("tick", "fair"),
    ("tick", "oldest"),
]

# Values that have none of the forms of deeds.
NO_DEEDS = (
    None, 0, True, "ask", "", (), [], {}, {"ask"}, object(), Contrary(), ("ask",), ("tick",), ("tick", "oldest", 1), ("pick",),
    ("pick", JOB, 1), ("pick", "job", (1,)), ["tick", "oldest"], ["pick", JOB], ["ask", "ann", "job", (1,), 0],
    ["drop", "ann", JOB], ["pass", "ann", "bob", JOB], ("ask", "ann", "job", [1], 0), ("ask", "ann", "job", 1, 0),
    ("ask", "ann", "job", None, 0), ("ask", "ann", "job", {1: 1}, 0), ("ask", "ann", "job", "1", 0), ("ask", "ann", JOB, 0),
    ("ask", "ann", "job", (1,)), ("ask", "ann", "job", (1,), 0, 0), ("ask", "ann", "job", Contrary(), 0), ("drop", "ann"),
    ("drop", "ann", JOB, 1), ("drop", "ann", "job", (1,)), ("pass", "ann", JOB), ("pass", "ann", "bob", "cleo", JOB),
    ("tock", "oldest"), ("Tick", "oldest"), ("idle",), ("step", JOB, (), 0, "", False), ("run", 1, "oldest"), (None, "oldest"),
    (Contrary(), "oldest"), ("", "oldest"), (["tick"], "oldest"), (("tick",), "oldest"), (b"tick", "oldest"), ((),), deep_tuple(),
    (1, 2), (1, 2, 3), (1, 2, 3, 4), (1, 2, 3, (), 5),
)

# Deeds that cannot be done on a hub with a job of ann's, and the errors they raise, with their fields.
NOT_DONE = (
    (("ask", "Ann", "job", (1,), 0), InvalidName("Ann")),
    (("ask", None, "no", (1,), 10), InvalidName(None)),
    (("ask", "ann", "no", (1,), 10), InvalidKey(("no", (1,)))),
    (("ask", "ann", "job", (), 0), InvalidKey(("job", ()))),
    (("ask", "ann", "job", (1, 1), 0), InvalidKey(("job", (1, 1)))),
    (("ask", "ann", "job", (True,), 0), InvalidKey(("job", (True,)))),
    (("ask", "ann", "job", (1.0,), 0), InvalidKey(("job", (1.0,)))),
    (("ask", "ann", "job", ([],), 0), InvalidKey(("job", ([],)))),
    (("ask", "ann", None, (1,), 0), InvalidKey((None, (1,)))),
    (("ask", "ann", "job", (1000000007,), 0), InvalidKey(("job", (1000000007,)))),
    (("ask", "ann", "job", (1,) * 500, 0), InvalidKey(("job", (1,) * 500))),
    (("ask", "ann", "job", (1,), 10), InvalidNumber(10)),
    (("ask", "ann", "job", (1,), -1), InvalidNumber(-1)),
    (("ask", "ann", "job", (1,), True), InvalidNumber(True)),
    (("ask", "ann", "job", (1,), None), InvalidNumber(None)),
    (("drop", "", JOB), InvalidName("")),
    (("drop", True, JOB), InvalidName(True)),
    (("drop", "bob", JOB), NotHeld(JOB)),
    (("drop", "ann", ("job", (True,))), NotHeld(("job", (True,)))),
    (("drop", "ann", ["job", (1,)]), NotHeld(["job", (1,)])),
    (("drop", "ann", None), NotHeld(None)),
    (("pass", "A", "bob", JOB), InvalidName("A")),
    (("pass", "ann", "B", ("no", ())), InvalidName("B")),
    (("pass", "bob", "ann", JOB), NotHeld(JOB)),
    (("pass", "ann", "bob", ("job", [1])), NotHeld(("job", [1]))),
    (("tick", "old"), InvalidPolicy("old")),
    (("tick", None), InvalidPolicy(None)),
    (("tick", ["oldest"]), InvalidPolicy(["oldest"])),
    (("tick", JOB), InvalidPolicy(JOB)),
    (("pick", BOSS), UnknownTask(BOSS)),
    (("pick", ("job", (True,))), UnknownTask(("job", (True,)))),
    (("pick", "oldest"), UnknownTask("oldest")),
    (("pick", DUTY), InvalidPolicy(DUTY)),
)
FIELDS = ("value", "key", "limit")


def told(error):
    """Return the class of an error and its field."""
    return type(error), [repr(getattr(error, field)) for field in FIELDS if hasattr(error, field)]


class LogCase(unittest.TestCase):
    def assert_invalid(self, index, cause, deed, *values, **more):
        """Check that InvalidLog is raised with an index, from an error or from none."""
        with self.assertRaises(InvalidLog) as caught:
            deed(*values, **more)
        error = caught.exception
        self.assertIs(type(error), InvalidLog)
        self.assertEqual(error.index, index)
        if cause is None:
            self.assertIsNone(error.__cause__)
            self.assertIsNone(error.__context__)
        else:
            self.assertEqual(told(error.__cause__), told(cause))


class ReplayedTest(LogCase):
    def test_the_log_of_a_hub(self):
        hub = replayed(PROGRAM, LOG)
        self.assertIs(type(hub), Hub)
        self.assertEqual(hub.log, LOG)
        self.assertEqual((hub.effects, hub.cost, hub.clock), ([(DUTY, "hello")], 1 + 5 + 2, 7))
        self.assertEqual((hub.users, hub.steps(JOB), hub.rest(BOSS)), (["bob", "cleo"], 3, 4))

    def test_an_empty_log(self):
        self.assertIs(replayed(PROGRAM, []) == Hub(PROGRAM), True)
        self.assertIs(replayed(PROGRAM, [], patience=3) == Hub(PROGRAM, patience=3), True)

    def test_each_beginning(self):
        for length in range(len(LOG) + 1):
            self.assertEqual(replayed(PROGRAM, LOG[:length]).log, LOG[:length])

    def test_the_patience(self):
        log = [("ask", "ann", "job", (1,), 0), ("drop", "ann", JOB)] + [("tick", "oldest")] * 3
        self.assertEqual([len(replayed(PROGRAM, log, patience=patience)) for patience in (0, 2, 3, 10)], [0, 0, 1, 1])
        self.assertEqual((replayed(PROGRAM, log, patience=3).patience, replayed(PROGRAM, log).patience), (3, 10))
        self.assertIs(replayed(PROGRAM, log, patience=3) == replayed(PROGRAM, log), False)

    def test_by_name(self):
        self.assertEqual(replayed(patience=1, log=LOG[:4], program=PROGRAM).log, LOG[:4])
        with self.assertRaises(TypeError):
            replayed(PROGRAM, LOG, 3)

    def test_the_log_is_not_changed(self):
        log = list(LOG)
        hub = replayed(PROGRAM, log)
        hub.tick()
        self.assertEqual((log, len(hub.log)), (LOG, len(LOG) + 1))
        log.clear()
        self.assertEqual(hub.log[:-1], LOG)

    def test_errors_as_a_hub(self):
        for program in (None, {}, "plan a\nresult 0", PROGRAM["job"], Contrary()):
            for patience in (1, None):
                with self.assertRaises(InvalidProgram) as caught:
                    replayed(program, [None], patience=patience)
                self.assertIsNone(caught.exception.name)
        for patience in (-1, 1001) + NO_INTEGERS:
            with self.assertRaises(InvalidNumber) as caught:
                replayed(PROGRAM, [None], patience=patience)
            self.assertIs(caught.exception.value, patience)

    def test_items_without_a_form(self):
        for item in NO_DEEDS:
            for before in (0, 1, 4):
                self.assert_invalid(before, None, replayed, PROGRAM, LOG[:before] + [item])
            self.assert_invalid(2, None, replayed, PROGRAM, LOG[:2] + [item, ("tick", "no"), item])

    def test_items_that_raise_errors(self):
        for item, error in NOT_DONE:
            before = [("ask", "ann", "job", (1,), 0), ("ask", "bob", "duty", (), 0), ("drop", "bob", DUTY)]
            self.assert_invalid(3, error, replayed, PROGRAM, before + [item, None])
            before.insert(0, ("tick", "fair"))
            self.assert_invalid(4, error, replayed, PROGRAM, before + [item, item])

    def test_the_first_one_counts(self):
        self.assert_invalid(1, InvalidPolicy("no"), replayed, PROGRAM, [LOG[0], ("tick", "no"), None, 0])
        self.assert_invalid(0, None, replayed, PROGRAM, [None, ("tick", "no"), LOG[0]])

    def test_more_than_500_tasks(self):
        asks = [("ask", "ann", "job", (number,), 0) for number in range(500)]
        self.assertEqual(len(replayed(PROGRAM, asks)), 500)
        self.assertEqual(len(replayed(PROGRAM, asks + [("ask", "bob", "job", (499,), 0)])), 500)
        self.assert_invalid(500, LimitExceeded(500), replayed, PROGRAM, asks + [("ask", "ann", "job", (500,), 0)])
        log = asks[:499] + [("ask", "ann", "row", (1,), 0), ("tick", "oldest"), ("tick", "newest"), ("tick", "oldest")]
        self.assert_invalid(501, LimitExceeded(500), replayed, PROGRAM, log)
        log[501] = ("pick", ("row", (1,)))
        self.assert_invalid(501, LimitExceeded(500), replayed, PROGRAM, log)

    def test_drawn_logs(self):
        for seed in range(200):
            pair = Pair(self, seed)
            for _ in range(pair.random.randint(0, 80)):
                pair.deed()
            hub = pair.hub
            again = replayed(pair.program, hub.log, patience=hub.patience)
            self.assertIs(again == hub, True)
            self.assertEqual(seen(again), seen(hub))
            again.tick("fair")
            self.assertIs(again == hub, False)
            if hub.log:
                self.assertIs(replayed(pair.program, hub.log[:-1], patience=hub.patience) == hub, False)

    def test_drawn_logs_of_which_an_item_is_changed(self):
        counts = {}
        for seed in range(300):
            pair = Pair(self, seed)
            for _ in range(pair.random.randint(2, 40)):
                pair.deed()
            log = pair.hub.log or [("tick", "oldest")]
            at, other = pair.random.randrange(len(log)), pair.random.randrange(len(log))
            log[at] = log[other]
            self.count(counts, pair, log)
        self.assertTrue(counts[True] > 30 and counts[False] > 30, counts)

    def count(self, counts, pair, log):
        """Compare with a hub on which the deeds are done one by one."""
        hub, index = Hub(pair.program, patience=pair.hub.patience), 0
        try:
            for deed in log:
                {"ask": lambda user, plan, arguments, urgency: hub.ask(user, plan, *arguments, urgency=urgency),
                 "drop": hub.drop, "pass": hub.pass_on, "tick": hub.tick, "pick": hub.pick}[deed[0]](*deed[1:])
                index += 1
        except (InvalidPolicy, UnknownTask, NotHeld, LimitExceeded) as error:
            self.assert_invalid(index, error, replayed, pair.program, log, patience=pair.hub.patience)
            counts[False] = counts.get(False, 0) + 1
        else:
            self.assertIs(replayed(pair.program, log, patience=pair.hub.patience) == hub, True)
            counts[True] = counts.get(True, 0) + 1


class RehearsedTest(LogCase):
    def hub(self):
        hub = Hub(PROGRAM, patience=2)
        hub.ask("ann", "job", 1)
        hub.ask("bob", "duty")
        hub.drop("bob", DUTY)
        return hub

    def test_a_copy_behind_the_deeds(self):
        hub = self.hub()
        before = seen(hub)
        deeds = [("tick", "oldest"), ("ask", "cleo", "boss", (1,), 3), ("pick", BOSS), ("drop", "ann", JOB)]
        copied = rehearsed(hub, deeds)
        self.assertEqual((seen(hub), copied.log), (before, hub.log + deeds))
        self.assertIs(copied == replayed(PROGRAM, hub.log + deeds, patience=2), True)
        self.assertEqual(seen(copied), seen(replayed(PROGRAM, hub.log + deeds, patience=2)))

    def test_it_is_independent(self):
        hub = self.hub()
        before = seen(hub)
        copied = rehearsed(hub, [("tick", "oldest")])
        copied.run(9)
        self.assertEqual(seen(hub), before)
        within = seen(copied)
        hub.drop("ann", JOB)
        hub.run(2)
        hub.run(2)
        self.assertEqual(seen(copied), within)

    def test_without_deeds(self):
        hub = self.hub()
        copied = rehearsed(hub, [])
        self.assertIsNot(copied, hub)
        self.assertEqual((copied == hub, seen(copied)), (True, seen(hub)))

    def test_by_name(self):
        hub = self.hub()
        self.assertEqual(rehearsed(deeds=[("tick", "fair")], hub=hub).log[-1], ("tick", "fair"))

    def test_the_deeds_are_not_changed(self):
        deeds = [("tick", "oldest"), ("drop", "ann", JOB)]
        rehearsed(self.hub(), deeds)
        self.assertEqual(deeds, [("tick", "oldest"), ("drop", "ann", JOB)])

    def test_items_without_a_form(self):
        hub = self.hub()
        before = seen(hub)
        for item in NO_DEEDS:
            self.assert_invalid(0, None, rehearsed, hub, [item])
            self.assert_invalid(2, None, rehearsed, hub, [("tick", "oldest"), ("drop", "ann", JOB), item])
        self.assertEqual(seen(hub), before)

    def test_items_that_raise_errors(self):
        hub = self.hub()
        before = seen(hub)
        for item, error in NOT_DONE:
            self.assert_invalid(0, error, rehearsed, hub, [item])
            self.assert_invalid(2, error, rehearsed, hub, [("tick", "oldest"), ("tick", "fair"), item, None])
        self.assertEqual(seen(hub), before)
        self.assertEqual((hub.run(9), hub.shares), (3, {"ann": (3, 1)}))

    def test_more_than_500_tasks(self):
        hub = Hub(PROGRAM)
        for number in range(499):
            hub.ask("ann", "job", number)
        before = seen(hub)
        deeds = [("ask", "ann", "row", (1,), 0), ("pick", ("row", (1,)))]
        self.assertEqual(len(rehearsed(hub, deeds[:1])), 500)
        self.assert_invalid(1, LimitExceeded(500), rehearsed, hub, deeds)
        self.assertEqual(seen(hub), before)

    def test_within_a_trial(self):
        hub = self.hub()
        before = seen(hub)
        with hub.trial():
            hub.tick()
            within = seen(hub)
            copied = rehearsed(hub, [("tick", "newest")])
            self.assertEqual(seen(hub), within)
        self.assertEqual((seen(hub), copied.log[-2:]), (before, [("tick", "oldest"), ("tick", "newest")]))

    def test_drawn_deeds(self):
        for seed in range(150):
            pair = Pair(self, seed)
            for _ in range(pair.random.randint(0, 40)):
                pair.deed()
            early, before = pair.hub.copy(), seen(pair.hub)
            for _ in range(pair.random.randint(0, 20)):
                pair.deed()
            deeds = pair.hub.log[len(early.log):]
            copied = rehearsed(early, deeds)
            self.assertEqual((seen(early), seen(copied), copied == pair.hub), (before, seen(pair.hub), True))
            self.assert_invalid(len(deeds), None, rehearsed, early, deeds + [None])
            self.assertEqual(seen(early), before)


class EqualHubsTest(unittest.TestCase):
    def test_hubs_that_differ_in_one_deed(self):
        hub = replayed(PROGRAM, LOG)
        others = {1: ("ask", "bob", "duty", (), 1), 3: ("ask", "bob", "job", (1,), 8), 2: ("tick", "newest"),
                  6: ("pass", "bob", "cleo", DUTY), 9: ("tick", "fair"), 12: ("tick", "fair"), 4: ("pick", JOB)}
        for at, deed in others.items():
            log = LOG[:at] + [deed] + LOG[at + 1:]
            if at == 6:
                log = log[:9] + log[10:]
            self.assertIs(replayed(PROGRAM, log) == hub, False, at)
        self.assertIs(replayed(PROGRAM, list(LOG)) == hub, True)

    def test_hubs_that_differ_in_the_patience_or_in_the_program(self):
        hub = replayed(PROGRAM, LOG)
        self.assertIs(replayed(PROGRAM, LOG, patience=11) == hub, False)
        self.assertIs(replayed(PROGRAM | parse_program("plan z\nresult 0"), LOG) == hub, False)
        random = Random(5)
        other = random_program(random)
        self.assertIs(Hub(other) == Hub(PROGRAM), False)
        self.assertIs(Hub(other) == Hub(other), True)


if __name__ == "__main__":
    unittest.main()
