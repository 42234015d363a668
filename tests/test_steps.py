"""Steps: what each instruction does."""

import unittest

from observing import seen
from wantedwork.errors import LimitExceeded
from wantedwork.hubs import Hub
from wantedwork.language import parse_program
from wantedwork.plans import Plan, Program

M = 1000000007

# Plans that others call: what is done, what fails, what stays unfinished.
OTHERS = """
plan good n
result n
plan bad n
  fail n
result 0
plan stuck
  call x stuck()
  wait 1 of x
result 0"""


def made(body, result="0", arguments=""):
    """Return a hub with a task ("p", ..) of a plan, asked for by ann, and others beside it."""
    lines = "".join(["  " + line + "\n" for line in body])
    return Hub(parse_program(f"plan p{arguments}\n{lines}result {result}{OTHERS}"))


class StepsCase(unittest.TestCase):
    P = ("p", ())

    def outcome(self, body, result="0", most=1000):
        """Return state, result, reason and steps of a task behind as many ticks as it takes."""
        hub = made(body, result)
        hub.ask("ann", "p")
        hub.run(most)
        return hub.state(self.P), hub.result_of(self.P), hub.reason_of(self.P), hub.steps(self.P)

    def value(self, result, *body):
        """Return the result of a task that is done."""
        state, number, reason, _ = self.outcome(body, result)
        self.assertEqual((state, reason), ("done", None))
        self.assertIs(type(number), int)
        return number


class LifeTest(StepsCase):
    def test_a_step_for_each_instruction_and_one_at_the_end(self):
        hub = made(["work 1", "say a"])
        key = hub.ask("ann", "p")
        told = [(hub.state(key), hub.steps(key))]
        while hub.tick() is not None:
            told.append((hub.state(key), hub.steps(key)))
        self.assertEqual(told, [("new", 0), ("ready", 1), ("ready", 2), ("done", 3)])
        self.assertEqual((hub.result_of(key), hub.reason_of(key), hub.clock), (0, None, 4))

    def test_an_empty_body(self):
        self.assertEqual(self.outcome([], "7"), ("done", 7, None, 1))

    def test_no_outcome_before_the_end(self):
        hub = made(["v = 5", "work 1"], "v")
        key = hub.ask("ann", "p")
        for _ in range(2):
            hub.tick()
            self.assertEqual((hub.result_of(key), hub.reason_of(key)), (None, None))
        hub.tick()
        self.assertEqual((hub.result_of(key), hub.reason_of(key)), (5, None))

    def test_a_failed_task(self):
        self.assertEqual(self.outcome(["fail 7", "work 1"], "1"), ("failed", None, 7, 1))
        self.assertEqual(self.outcome(["fail 0"]), ("failed", None, 0, 1))

    def test_results_of_0(self):
        self.assertEqual(self.outcome(["work 1"], "0"), ("done", 0, None, 2))

    def test_tasks_that_are_over_stay(self):
        hub = Hub(parse_program("plan p\nresult 1\nplan q\n  fail 1\nresult 1"), patience=0)
        for plan in ("p", "q"):
            hub.ask("ann", plan)
        hub.run(5)
        for plan in ("p", "q"):
            hub.drop("ann", (plan, ()))
        for _ in range(5):
            self.assertIsNone(hub.tick())
        self.assertEqual((hub.tasks, hub.rest(("p", ()))), ([("p", ()), ("q", ())], 0))
        self.assertEqual((hub.state(("p", ())), hub.state(("q", ()))), ("done", "failed"))


class ExpressionsTest(StepsCase):
    def test_operations(self):
        for text, number in (
            ("3 + 4", 7), ("1000000006 + 1", 0), ("1000000006 + 1000000006", M - 2), ("4 - 3", 1), ("3 - 4", M - 1),
            ("0 - 1000000006", 1), ("3 * 4", 12), ("1000000006 * 1000000006", 1), ("65536 * 65536", 65536 ** 2 % M),
            ("1 < 2", 1), ("2 < 2", 0), ("3 < 2", 0), ("2 == 2", 1), ("2 == 3", 0), ("0 - 1 < 1", 0), ("1 - 1 == 0", 1),
            ("2 - (3 - 4)", 3), ("1 < (2 < 3)", 0),
        ):
            self.assertEqual(self.value(text), number, text)

    def test_numbers_and_arguments(self):
        self.assertEqual(self.value("1000000006"), M - 1)
        hub = made([], "a * 100 + b", " a b")
        key = hub.ask("ann", "p", 3, 4)
        hub.run(5)
        self.assertEqual(hub.result_of(key), 304)

    def test_a_variable_without_a_value_counts_0(self):
        self.assertEqual(self.value("v + 5", "if 0", "  v = 7"), 5)
        self.assertEqual(self.value("v + 5", "if 1", "  v = 7"), 12)

    def test_known(self):
        self.assertEqual(self.value("known v", "v = 0"), 1)
        self.assertEqual(self.value("known v", "if 0", "  v = 1"), 0)
        self.assertEqual(self.value("known x", "call x good(3)"), 0)
        self.assertEqual(self.value("known x", "call x good(3)", "wait 1 of x"), 1)
        self.assertEqual(self.value("known x", "call x bad(3)", "catch x"), 0)

    def test_reason(self):
        self.assertEqual(self.value("reason x", "call x bad(3)", "catch x"), 3)
        self.assertEqual(self.value("reason x", "call x good(3)", "catch x"), 0)
        self.assertEqual(self.value("reason x", "call x bad(3)"), 0)
        self.assertEqual(self.value("reason v", "v = 3"), 0)


class SetTest(StepsCase):
    def test_sets(self):
        self.assertEqual(self.value("v * 10 + w", "v = 3", "w = v + 1", "v = w * v"), 124)

    def test_takes_the_tie_away(self):
        hub = made(["call x stuck()", "x = 4"], "x")
        key = hub.ask("ann", "p")
        hub.pick(key)
        self.assertEqual(hub.holds(key), [("stuck", ())])
        hub.pick(key)
        self.assertEqual(hub.holds(key), [])

    def test_takes_the_reason_away(self):
        self.assertEqual(self.value("reason x * 10 + x", "call x bad(3)", "catch x", "x = 1"), 1)
        self.assertEqual(self.value("x", "call x bad(3)", "catch x", "x = reason x"), 3)

    def test_another_variable_keeps_its_own(self):
        self.assertEqual(self.value("reason x * 10 + y", "call x bad(3)", "catch x", "y = 1"), 31)


class CallTest(StepsCase):
    def test_creates_the_task_once(self):
        hub = made(["call x good(1)", "call y good(2)", "call z good(1)"])
        key = hub.ask("ann", "p")
        for _ in range(3):
            hub.pick(key)
        self.assertEqual(hub.tasks, [key, ("good", (1,)), ("good", (2,))])
        self.assertEqual((hub.holds(key), len(hub)), ([("good", (1,)), ("good", (2,))], 3))
        self.assertEqual((hub.state(("good", (1,))), hub.steps(("good", (1,)))), ("new", 0))

    def test_takes_value_and_reason_away(self):
        self.assertEqual(self.value("known x * 10 + x", "x = 7", "call x good(1)"), 0)
        self.assertEqual(self.value("reason x", "call x bad(3)", "catch x", "call x bad(4)"), 0)

    def test_the_expressions_see_the_old_value(self):
        self.assertEqual(self.value("x", "x = 7", "call x good(x + 1)", "wait 1 of x"), 8)
        self.assertEqual(self.value("x", "call x bad(3)", "catch x", "call x good(reason x)", "wait 1 of x"), 3)

    def test_in_place_of_another_tie(self):
        hub = made(["call x good(1)", "call x good(2)"])
        key = hub.ask("ann", "p")
        hub.pick(key)
        hub.pick(key)
        self.assertEqual(hub.holds(key), [("good", (2,))])

    def test_of_itself(self):
        hub = made(["call x p()", "wait 1 of x"])
        key = hub.ask("ann", "p")
        self.assertEqual((hub.run(10), hub.state(key), hub.holds(key)), (1, "waiting", [key]))

    def test_tasks_share_tasks(self):
        program = parse_program("plan p n\n  call x q()\n  wait 1 of x\nresult x + n\nplan q\n  work 5\nresult 7")
        hub = Hub(program)
        keys = [hub.ask("ann", "p", number) for number in range(3)]
        hub.run(100)
        self.assertEqual(([hub.result_of(key) for key in keys], hub.cost, len(hub)), ([7, 8, 9], 5, 4))

    def test_of_a_task_that_is_over(self):
        hub = made(["call x good(5)", "wait 1 of x"], "x")
        hub.ask("ann", "good", 5)
        hub.run(1)
        key = hub.ask("ann", "p")
        self.assertEqual((hub.run(10), hub.result_of(key), hub.steps(("good", (5,)))), (3, 5, 1))


class WaitTest(StepsCase):
    def test_met_by_all(self):
        self.assertEqual(self.value("x * 10 + y", "call x good(1)", "call y good(2)", "wait 2 of x, y"), 12)

    def test_waits_before_it_is_met(self):
        hub = made(["call x good(1)", "call y good(2)", "wait 2 of x, y"])
        key = hub.ask("ann", "p")
        hub.pick(key)
        self.assertEqual(hub.state(key), "ready")
        hub.pick(key)
        self.assertEqual(hub.state(key), "waiting")
        hub.pick(("good", (1,)))
        self.assertEqual(hub.state(key), "waiting")
        hub.pick(("good", (2,)))
        self.assertEqual(hub.state(key), "ready")
        self.assertEqual(hub.holds(key), [("good", (1,)), ("good", (2,))])
        hub.pick(key)
        self.assertEqual((hub.state(key), hub.holds(key), hub.steps(key)), ("ready", [], 3))

    def test_met_by_some(self):
        hub = made(["call x stuck()", "call y good(2)", "wait 1 of x, y"], "known x * 100 + known y * 10 + y")
        key = hub.ask("ann", "p")
        hub.pick(key)
        hub.pick(key)
        hub.pick(("good", (2,)))
        self.assertEqual(hub.state(key), "ready")
        hub.pick(key)
        # None of its variables is tied any more, whether its task is over or not.
        self.assertEqual(hub.holds(key), [])
        hub.pick(key)
        self.assertEqual(hub.result_of(key), 12)

    def test_met_by_more_than_its_number(self):
        hub = made(["call x good(1)", "call y good(2)", "call z bad(3)", "wait 1 of x, y, z"],
                   "x * 100 + y * 10 + z + reason z + known z")
        for plan, number in (("good", 1), ("good", 2), ("bad", 3)):
            hub.ask("ann", plan, number)
        hub.run(3)
        key = hub.ask("ann", "p")
        hub.run(10)
        self.assertEqual((hub.result_of(key), hub.steps(key)), (120, 5))

    def test_other_variables_stay_tied(self):
        hub = made(["call x good(1)", "call y good(2)", "call z good(3)", "wait 1 of y"])
        key = hub.ask("ann", "p")
        for _ in range(3):
            hub.pick(key)
        hub.pick(("good", (2,)))
        hub.pick(key)
        self.assertEqual(hub.holds(key), [("good", (1,)), ("good", (3,))])

    def test_two_variables_of_one_task_count_twice(self):
        self.assertEqual(self.value("x * 10 + y", "call x good(1)", "call y good(1)", "wait 2 of x, y"), 11)

    def test_lost(self):
        self.assertEqual(self.outcome(["call x bad(4)", "wait 1 of x"]), ("failed", None, 4, 2))
        self.assertEqual(self.outcome(["call x good(1)", "call y bad(4)", "wait 2 of x, y"]), ("failed", None, 4, 3))

    def test_lost_with_the_reason_of_the_first_variable(self):
        calls = ["call x bad(4)", "call y good(1)", "call z bad(5)"]
        self.assertEqual(self.outcome(calls + ["wait 2 of x, y, z"])[2], 4)
        self.assertEqual(self.outcome(calls + ["wait 2 of z, y, x"])[2], 5)
        self.assertEqual(self.outcome(calls + ["wait 3 of y, z, x"])[2], 5)
        self.assertEqual(self.outcome(["call y bad(5)", "call x bad(4)", "wait 1 of y, x"])[2], 5)

    def test_lost_only_when_all_are_over(self):
        hub = made(["call x bad(4)", "call y good(2)", "wait 2 of x, y"])
        key = hub.ask("ann", "p")
        hub.pick(key)
        hub.pick(key)
        hub.pick(("bad", (4,)))
        self.assertEqual(hub.state(key), "waiting")
        hub.pick(("good", (2,)))
        self.assertEqual(hub.state(key), "ready")
        hub.pick(key)
        self.assertEqual((hub.state(key), hub.reason_of(key), hub.holds(key)), ("failed", 4, []))

    def test_met_and_lost_at_once(self):
        # All are over and one has failed: as long as enough are done, it is met.
        self.assertEqual(self.value("x", "call x good(3)", "call y bad(4)", "wait 1 of y, x"), 3)

    def test_a_variable_that_is_not_tied(self):
        for body in (["if 0", "  call x good(1)", "wait 1 of x"], ["call x good(1)", "drop x", "wait 1 of x"],
                     ["call x good(1)", "wait 1 of x", "wait 1 of x"], ["call x good(1)", "x = 1", "wait 1 of x"],
                     ["call x bad(1)", "call y bad(2)", "drop x", "wait 1 of x, y"],
                     ["call x good(1)", "call y bad(2)", "drop y", "wait 2 of x, y"]):
            self.assertEqual(self.outcome(body)[0], "waiting", body)
        self.assertEqual(self.value("y", "call x good(1)", "call y good(2)", "drop x", "wait 1 of x, y"), 2)

    def test_six_variables(self):
        body = [f"call {word} good({at})" for at, word in enumerate("abcdef")]
        self.assertEqual(self.value("a + b + c + d + e + f", *body, "wait 6 of f, e, d, c, b, a"), 15)

    def test_the_first_of_those_that_race(self):
        program = parse_program("plan p\n  call x slow()\n  call y fast()\n  wait 1 of x, y\nresult known x * 2 + known y\n"
                                "plan slow\n  work 1\n  work 1\n  work 1\nresult 1\nplan fast\n  work 1\nresult 1")
        hub = Hub(program)
        key = hub.ask("ann", "p")
        hub.run(100, "fair")
        self.assertEqual((hub.result_of(key), hub.state(("slow", ()))), (1, "ready"))


class CatchTest(StepsCase):
    def test_results_and_reasons(self):
        result = "reason x * 1000 + y * 100 + known x * 10 + reason y"
        self.assertEqual(self.value(result, "call x bad(4)", "call y good(5)", "catch x, y"), 4500)

    def test_waits_for_all(self):
        hub = made(["call x bad(4)", "call y good(5)", "catch y, x"])
        key = hub.ask("ann", "p")
        hub.pick(key)
        self.assertEqual(hub.state(key), "ready")
        hub.pick(key)
        self.assertEqual(hub.state(key), "waiting")
        hub.pick(("bad", (4,)))
        self.assertEqual(hub.state(key), "waiting")
        hub.pick(("good", (5,)))
        self.assertEqual(hub.state(key), "ready")
        hub.pick(key)
        self.assertEqual((hub.holds(key), hub.state(key)), ([], "ready"))

    def test_a_variable_that_is_not_tied(self):
        for body in (["call x good(1)", "drop x", "catch x"], ["call x good(1)", "catch x", "catch x"],
                     ["call x good(1)", "call y good(2)", "drop y", "catch x, y"]):
            self.assertEqual(self.outcome(body)[0], "waiting", body)

    def test_is_met_at_once_by_tasks_that_are_over(self):
        hub = made(["call x bad(4)", "catch x"], "reason x")
        hub.ask("ann", "bad", 4)
        hub.run(1)
        key = hub.ask("ann", "p")
        hub.pick(key)
        self.assertEqual(hub.state(key), "ready")


class DropTest(StepsCase):
    def test_takes_the_tie_away(self):
        hub = made(["call x good(1)", "call y good(2)", "drop x", "drop x"])
        key = hub.ask("ann", "p")
        for _ in range(3):
            hub.pick(key)
        self.assertEqual(hub.holds(key), [("good", (2,))])
        hub.pick(key)
        self.assertEqual(hub.holds(key), [("good", (2,))])

    def test_keeps_value_and_reason(self):
        self.assertEqual(self.value("x", "call x good(3)", "wait 1 of x", "drop x"), 3)
        self.assertEqual(self.value("reason x", "call x bad(3)", "catch x", "drop x"), 3)

    def test_one_of_two_ties_to_a_task(self):
        hub = made(["call x good(1)", "call y good(1)", "drop x"])
        key = hub.ask("ann", "p")
        for _ in range(3):
            hub.pick(key)
        self.assertEqual(hub.holds(key), [("good", (1,))])


class BlocksTest(StepsCase):
    def test_if(self):
        self.assertEqual(self.outcome(["v = 0", "if 1", "  v = v + 1", "  v = v + 10", "v = v + 100"], "v"), ("done", 111, None, 6))
        self.assertEqual(self.outcome(["v = 0", "if 0", "  v = v + 1", "  v = v + 10", "v = v + 100"], "v"), ("done", 100, None, 4))
        self.assertEqual(self.outcome(["v = 0", "if 5", "  v = 1"], "v"), ("done", 1, None, 4))
        self.assertEqual(self.outcome(["v = 0", "if 0", "  v = 1"], "v"), ("done", 0, None, 3))

    def test_while(self):
        body = ["v = 0", "while v < 3", "  v = v + 1", "v = v * 10"]
        self.assertEqual(self.outcome(body, "v"), ("done", 30, None, 1 + 4 + 3 + 1 + 1))
        self.assertEqual(self.outcome(["while 0", "  work 1"]), ("done", 0, None, 2))

    def test_a_while_at_the_end(self):
        self.assertEqual(self.outcome(["v = 0", "while v < 2", "  v = v + 1"], "v"), ("done", 2, None, 1 + 3 + 2 + 1))

    def test_a_while_that_does_not_end(self):
        hub = made(["while 1", "  work 2"])
        key = hub.ask("ann", "p")
        self.assertEqual((hub.run(1001), hub.steps(key), hub.cost, hub.state(key)), (1001, 1001, 1000, "ready"))

    def test_an_if_that_ends_a_while(self):
        body = ["v = 0", "w = 0", "while v < 4", "  v = v + 1", "  if v < 3", "    w = w + 10"]
        self.assertEqual(self.outcome(body, "w + v"), ("done", 24, None, 2 + 5 + 4 * 2 + 2 + 1))

    def test_a_while_that_ends_a_while(self):
        body = ["v = 0", "t = 0", "while v < 3", "  v = v + 1", "  w = 0", "  while w < 2", "    w = w + 1", "    t = t + 1"]
        self.assertEqual(self.outcome(body, "t * 10 + v"), ("done", 63, None, 2 + 4 + 3 * (2 + 3 + 4) + 1))

    def test_a_while_in_an_if_that_ends_a_while(self):
        body = ["v = 0", "t = 0", "while v < 3", "  v = v + 1", "  if v == 2", "    w = 0", "    while w < 2",
                "      w = w + 1", "      if w == 1", "        t = t + 1"]
        self.assertEqual(self.value("t * 10 + v", *body), 13)

    def test_an_if_that_ends_with_a_while_in_it(self):
        body = ["v = 0", "if 1", "  while v < 2", "    v = v + 1", "v = v + 10"]
        self.assertEqual(self.value("v", *body), 12)

    def test_blocks_that_end_at_different_places(self):
        body = ["v = 0", "while v < 2", "  if 1", "    v = v + 1", "  v = v + 0", "v = v + 10"]
        self.assertEqual(self.outcome(body, "v"), ("done", 12, None, 1 + 3 + 2 * 3 + 1 + 1))

    def test_24_instructions_in_23_blocks(self):
        body = tuple(("if", 1, 23 - at) for at in range(23)) + (("work", 1),)
        hub = Hub(Program({"p": Plan((), body, 3)}))
        key = hub.ask("ann", "p")
        self.assertEqual((hub.run(100), hub.result_of(key), hub.cost), (25, 3, 1))
        body = (("set", "v", 0), ("while", ("less", "v", 2), 22)) + tuple(("while", ("less", "v", 2), 21 - at) for at in range(21))
        hub = Hub(Program({"p": Plan((), body + (("set", "v", ("plus", "v", 1)),), "v")}))
        key = hub.ask("ann", "p")
        # Behind the inner one the innermost while is asked again; each of them then in its turn.
        self.assertEqual((hub.run(1000), hub.result_of(key)), (1 + 22 + 1 + 1 + 1 + 22 + 1, 2))

    def test_a_call_and_a_wait_in_a_while(self):
        body = ["v = 0", "t = 0", "while v < 3", "  v = v + 1", "  call x good(v * v)", "  wait 1 of x", "  t = t + x"]
        self.assertEqual(self.value("t", *body), 14)


class EffectsTest(StepsCase):
    def test_told_at_the_end_in_their_order(self):
        hub = made(["say b", "say a", "say b", "work 1"])
        key = hub.ask("ann", "p")
        hub.run(4)
        self.assertEqual(hub.effects, [])
        hub.run(1)
        self.assertEqual(hub.effects, [(key, "b"), (key, "a"), (key, "b")])

    def test_a_failed_task_has_none(self):
        hub = made(["say b", "fail 1"])
        hub.ask("ann", "p")
        hub.run(9)
        self.assertEqual(hub.effects, [])
        hub = made(["say b", "call x bad(1)", "wait 1 of x"])
        hub.ask("ann", "p")
        hub.run(9)
        self.assertEqual((hub.effects, hub.state(("p", ()))), ([], "failed"))

    def test_a_forgotten_task_has_none(self):
        hub = Hub(parse_program("plan p\n  say a\n  work 1\nresult 0"), patience=0)
        key = hub.ask("ann", "p")
        hub.tick()
        hub.drop("ann", key)
        hub.tick()
        self.assertEqual((hub.tasks, hub.effects), ([], []))
        hub.ask("ann", "p")
        hub.run(9)
        self.assertEqual(hub.effects, [(key, "a")])

    def test_of_several_tasks(self):
        program = parse_program("plan p\n  say first\n  call x q()\n  wait 1 of x\nresult 0\nplan q\n  say second\nresult 0")
        hub = Hub(program)
        hub.ask("ann", "p")
        hub.run(99)
        self.assertEqual(hub.effects, [(("q", ()), "second"), (("p", ()), "first")])


class HoldsTest(StepsCase):
    def test_by_the_numbers_of_the_tasks(self):
        hub = made(["call x good(1)", "call y good(2)", "call x good(3)", "call z good(1)"])
        hub.ask("ann", "good", 3)
        key = hub.ask("ann", "p")
        for _ in range(4):
            hub.pick(key)
        self.assertEqual(hub.holds(key), [("good", (3,)), ("good", (1,)), ("good", (2,))])

    def test_tasks_that_are_over_are_held(self):
        hub = made(["call x good(1)", "work 1"])
        key = hub.ask("ann", "p")
        hub.pick(key)
        hub.pick(("good", (1,)))
        self.assertEqual((hub.state(("good", (1,))), hub.holds(key)), ("done", [("good", (1,))]))

    def test_tasks_that_are_over_hold_none(self):
        for body in (["call x good(1)"], ["call x good(1)", "fail 1"]):
            hub = made(body)
            key = hub.ask("ann", "p")
            hub.run(3)
            self.assertEqual(hub.holds(key), [])

    def test_new_tasks_hold_none(self):
        hub = made(["call x good(1)"])
        self.assertEqual(hub.holds(hub.ask("ann", "p")), [])


class LimitTest(unittest.TestCase):
    PROGRAM = parse_program("plan deep n\n  call x deep(n + 1)\n  wait 1 of x\nresult 0\nplan one n\nresult 0")

    def test_a_call_for_which_there_is_no_room(self):
        hub = Hub(self.PROGRAM)
        first = hub.ask("ann", "deep", 0)
        self.assertEqual(hub.run(499), 499)
        self.assertEqual(len(hub), 500)
        before = seen(hub)
        last = ("deep", (499,))
        for deed in (hub.tick, lambda: hub.pick(last), lambda: next(hub.ticks()), lambda: hub.run(1),
                     lambda: hub.tick("newest")):
            with self.assertRaises(LimitExceeded) as caught:
                deed()
            self.assertEqual(caught.exception.limit, 500)
            self.assertEqual(seen(hub), before)
        self.assertEqual((hub.state(last), hub.state(first)), ("new", "waiting"))

    def test_the_ticks_of_a_run_remain(self):
        hub = Hub(self.PROGRAM)
        hub.ask("ann", "deep", 0)
        with self.assertRaises(LimitExceeded):
            hub.run(1000, policy="newest")
        self.assertEqual((hub.clock, len(hub), len(hub.log)), (499, 500, 500))

    def test_a_call_of_a_task_that_is_there_needs_no_room(self):
        hub = Hub(self.PROGRAM)
        key = hub.ask("ann", "deep", 0)
        hub.ask("ann", "deep", 1)
        for number in range(498):
            hub.ask("ann", "one", number)
        hub.pick(key)
        self.assertEqual((len(hub), hub.holds(key)), (500, [("deep", (1,))]))

    def test_what_is_forgotten_makes_room(self):
        hub = Hub(self.PROGRAM, patience=0)
        key = hub.ask("ann", "deep", 0)
        for number in range(499):
            hub.ask("ann", "one", number)
        with self.assertRaises(LimitExceeded):
            hub.pick(key)
        hub.drop("ann", ("one", (7,)))
        # The tick that forgets comes first.
        with self.assertRaises(LimitExceeded):
            hub.pick(key)
        hub.pick(("one", (0,)))
        self.assertEqual(len(hub), 499)
        hub.pick(key)
        self.assertEqual((len(hub), hub.tasks[-1]), (500, ("deep", (1,))))

    def test_500_tasks_that_wait_for_the_next_one(self):
        hub = Hub(parse_program("plan p n\n  if 0 < n\n    call x p(n - 1)\n    wait 1 of x\nresult x + 1"))
        key = hub.ask("ann", "p", 499)
        self.assertEqual((hub.run(10000), hub.result_of(key), len(hub)), (499 * 4 + 2, 500, 500))


if __name__ == "__main__":
    unittest.main()
