"""Outcomes that are computed directly, beside a slow reading of point 14 and beside hubs."""

import unittest
from random import Random
from unittest import mock

import readings
from generating import random_program
from observing import Contrary, deep_tuple
from pairs import Pair
from wantedwork import directly
from wantedwork.directly import needed, outcome_of
from wantedwork.errors import InvalidKey, InvalidProgram, LimitExceeded
from wantedwork.hubs import Hub
from wantedwork.language import parse_program

M = 1000000007
LEAVES = """plan leaf n
  work 1
result n
plan bad n
  fail n
result 0
"""


def computed(text, *arguments):
    """Return the outcome and the needed keys of plan p of a program with leaves."""
    program = parse_program(LEAVES + text)
    return outcome_of(program, "p", *arguments), needed(program, "p", *arguments)


def p(*arguments):
    return "p", arguments


def leaf(number):
    return "leaf", (number,)


def bad(number):
    return "bad", (number,)


class OutcomeTest(unittest.TestCase):
    def test_results_and_reasons(self):
        self.assertEqual(computed("plan p\nresult 7"), (("done", 7), [p()]))
        self.assertEqual(computed("plan p\n  fail 3\nresult 7"), (("failed", 3), [p()]))
        self.assertEqual(computed("plan p a b\nresult a - b", 1, 2), (("done", M - 1), [p(1, 2)]))
        self.assertEqual(computed("must p a b c\n  say hello\n  work 9\nresult a * b + c", 2, 3, 4),
                         (("done", 10), [p(2, 3, 4)]))

    def test_outcomes_are_tuples(self):
        for text in ("plan p\nresult 7", "plan p\n  fail 3\nresult 7"):
            self.assertIs(type(computed(text)[0]), tuple)

    def test_a_reason_of_0_is_an_outcome(self):
        self.assertEqual(computed("plan p\n  fail 0\nresult 7"), (("failed", 0), [p()]))
        self.assertEqual(computed("plan p\nresult 0"), (("done", 0), [p()]))

    def test_nothing_is_executed_behind_a_fail(self):
        self.assertEqual(computed("plan p\n  fail 3\n  call x p()\n  wait 1 of x\nresult 7"), (("failed", 3), [p()]))

    def test_sets_blocks_and_words_without_values(self):
        text = "plan p n\n  if 0\n    s = 7\n  i = 0\n  s = s + 1\n  while i < n\n    i = i + 1\n"
        text += "    if i == 3\n      s = s * 100\n    s = s + i\n"
        self.assertEqual(computed(text + "result s", 5)[0], ("done", (1 + 1 + 2) * 100 + 3 + 4 + 5))

    def test_waits_give_results(self):
        text = "plan p\n  call x leaf(4)\n  call y leaf(5)\n  wait 2 of y, x\nresult 10 * x + y"
        self.assertEqual(computed(text), (("done", 45), [p(), leaf(5), leaf(4)]))

    def test_a_lost_wait(self):
        text = "plan p\n  call x leaf(4)\n  call y bad(5)\n  call z bad(6)\n  wait 3 of x, %s\nresult x"
        self.assertEqual(computed(text % "y, z"), (("failed", 5), [p(), leaf(4), bad(5), bad(6)]))
        self.assertEqual(computed(text % "z, y"), (("failed", 6), [p(), leaf(4), bad(6), bad(5)]))

    def test_a_wait_that_is_lost_from_the_first_one_computes_all(self):
        text = "plan p\n  call x bad(4)\n  call y leaf(5)\n  wait 2 of x, y\nresult x"
        self.assertEqual(computed(text), (("failed", 4), [p(), bad(4), leaf(5)]))

    def test_catches(self):
        text = "plan p\n  call x leaf(4)\n  call y bad(5)\n  catch x, y\n"
        told = "result 1000 * known x + 100 * known y + 10 * x + reason y + reason x"
        self.assertEqual(computed(text + told), (("done", 1045), [p(), leaf(4), bad(5)]))

    def test_reasons_are_lost_by_set_and_call(self):
        text = "plan p\n  call x bad(5)\n  catch x\n  %s\nresult 10 * reason x + known x"
        self.assertEqual(computed(text % "x = 1")[0], ("done", 1))
        self.assertEqual(computed(text % "call x leaf(1)")[0], ("done", 0))
        self.assertEqual(computed(text % "y = 1")[0], ("done", 50))

    def test_a_call_alone_computes_nothing(self):
        self.assertEqual(computed("plan p\n  call x leaf(4)\n  call y p()\nresult 2"), (("done", 2), [p()]))

    def test_drop_and_a_call_in_place_of_another(self):
        text = "plan p\n  call x leaf(4)\n  %s\n  call x leaf(6)\n  wait 1 of x\nresult x"
        self.assertEqual(computed(text % "drop x"), (("done", 6), [p(), leaf(6)]))
        self.assertEqual(computed(text % "call x p()"), (("done", 6), [p(), leaf(6)]))

    def test_a_task_is_computed_once(self):
        text = "plan p\n  call x leaf(4)\n  call y leaf(4)\n  catch x\n  wait 1 of y\n  call z leaf(4)\n  catch z\n"
        self.assertEqual(computed(text + "result x + y + z"), (("done", 12), [p(), leaf(4)]))

    def test_the_order_in_which_tasks_begin(self):
        text = """plan q n
  call a leaf(n)
  call b leaf(n + 1)
  wait 2 of b, a
result a + b
plan p
  call x q(1)
  call y leaf(9)
  call z q(2)
  wait 1 of z
  wait 2 of y, x
result x + y + z"""
        keys = [p(), ("q", (2,)), leaf(3), leaf(2), leaf(9), ("q", (1,)), leaf(1)]
        self.assertEqual(computed(text), (("done", 17), keys))

    def test_the_list_is_new(self):
        program = parse_program("plan p\nresult 7")
        needed(program, "p").append(1)
        self.assertEqual(needed(program, "p"), [p()])

    def test_arguments_by_name(self):
        program = parse_program("plan p\nresult 7")
        self.assertEqual(outcome_of(program=program, plan="p"), ("done", 7))
        self.assertEqual(needed(plan="p", program=program), [p()])


class StoppedTest(unittest.TestCase):
    def test_a_variable_that_is_not_tied(self):
        for word in ("wait 1 of x", "catch x"):
            for untied in ("drop x", "x = 3", "catch x"):
                self.assertEqual(computed(f"plan p\n  call x leaf(1)\n  {untied}\n  {word}\nresult 0"), (None, None))
            self.assertEqual(computed(f"plan p\n  if 0\n    call x leaf(1)\n  {word}\nresult 0"), (None, None))

    def test_a_task_that_waits_for_itself(self):
        for word in ("wait 1 of x", "catch x"):
            self.assertEqual(computed(f"plan p\n  call x p()\n  {word}\nresult 0"), (None, None))

    def test_a_task_that_waits_for_one_that_waits_for_it(self):
        text = "plan p\n  call x q()\n  catch x\nresult 0\nplan q\n  call x p()\n  wait 1 of x\nresult 0"
        self.assertEqual(computed(text), (None, None))

    def test_one_that_only_holds_it(self):
        text = "plan p\n  call x q()\n  catch x\nresult x\nplan q\n  call x p()\nresult 4"
        self.assertEqual(computed(text), (("done", 4), [p(), ("q", ())]))

    def test_all_stops_also_where_the_failure_would_be_caught(self):
        text = "plan p\n  call x q()\n  catch x\nresult 1\nplan q\n  call x leaf(1)\n  drop x\n  catch x\nresult 0"
        self.assertEqual(computed(text), (None, None))

    def test_a_wait_that_cannot_be_met_any_more_but_is_not_lost(self):
        text = "plan p\n  call x bad(1)\n  call y p()\n  wait 2 of x, y\nresult 1"
        self.assertEqual(computed(text), (None, None))
        text = "plan p\n  call x bad(1)\n  call y bad(1)\n  drop y\n  wait 2 of x, y\nresult 1"
        self.assertEqual(computed(text), (None, None))


class ErrorsTest(unittest.TestCase):
    def assert_raises(self, error, field, value, program, *values):
        for function in (outcome_of, needed):
            with self.assertRaises(error) as caught:
                function(program, *values)
            self.assertIs(type(caught.exception), error)
            self.assertEqual(getattr(caught.exception, field), value)

    WAIT = "  call x leaf(1)\n  call y leaf(2)\n  wait 1 of x, y\nresult 0"

    def test_programs_that_are_not_determinate(self):
        program = parse_program(f"{LEAVES}plan c\n{self.WAIT}\nplan b\nresult 0\nplan zz\n{self.WAIT}")
        for plan in ("b", "c", "zz", "leaf", "none", None):
            self.assert_raises(InvalidProgram, "name", "c", program, plan)
        self.assert_raises(InvalidProgram, "name", "c", program, "leaf", 1)
        program = parse_program(f"{LEAVES}plan zz\n{self.WAIT}\nplan za\n{self.WAIT}")
        self.assert_raises(InvalidProgram, "name", "za", program, "leaf", 1)

    def test_a_wait_for_one_of_one_is_determinate(self):
        self.assertEqual(computed("plan p\n  call x leaf(3)\n  wait 1 of x\nresult x")[0], ("done", 3))

    def test_other_plans(self):
        program = parse_program(LEAVES.strip())
        for plan in (None, 1, True, "", "leave", "Leaf", b"leaf", ("leaf",), ["leaf"], {"leaf": 1}, {"leaf"}, object(),
                     deep_tuple()):
            for function in (outcome_of, needed):
                with self.assertRaises(InvalidKey) as caught:
                    function(program, plan, 1)
                self.assertIs(caught.exception.value[0], plan)
                self.assertEqual(caught.exception.value[1], (1,))

    def test_other_arguments(self):
        program = parse_program(LEAVES.strip())
        for arguments in ((), (1, 2), (True,), (False,), (None,), ("1",), (1.0,), (-1,), (M,), ((1,),), ([1],), ({},)):
            self.assert_raises(InvalidKey, "value", ("leaf", arguments), program, "leaf", *arguments)
        for value in (Contrary(), object(), deep_tuple()):
            with self.assertRaises(InvalidKey) as caught:
                outcome_of(program, "leaf", value)
            self.assertIs(caught.exception.value[1][0], value)
        self.assertEqual(outcome_of(program, "leaf", M - 1), ("done", M - 1))
        self.assertEqual(outcome_of(program, "leaf", 0), ("done", 0))

    def test_the_errors_of_keys_are_those_of_ask(self):
        program = parse_program(LEAVES.strip())
        for plan, arguments in (("leaf", ()), ("leaf", (True,)), ("no", (1,)), (None, ()), (["leaf"], (1,))):
            with self.assertRaises(InvalidKey) as caught:
                Hub(program).ask("ann", plan, *arguments)
            self.assert_raises(InvalidKey, "value", caught.exception.value, program, plan, *arguments)


class LimitsTest(unittest.TestCase):
    ROW = "plan p n\n  if n < %d\n    call x p(n + 1)\n    wait 1 of x\nresult x + 1"

    def assert_exceeded(self, limit, text, *arguments):
        program = parse_program(LEAVES + text)
        for function in (outcome_of, needed):
            with self.assertRaises(LimitExceeded) as caught:
                function(program, "p", *arguments)
            self.assertEqual(caught.exception.limit, limit)

    def test_500_tasks_each_of_which_waits_for_the_next_one(self):
        keys = [p(number) for number in range(500)]
        self.assertEqual(computed(self.ROW % 499, 0), (("done", 500), keys))
        self.assertEqual(computed(self.ROW % 500, 1), (("done", 500), [p(number) for number in range(1, 501)]))

    def test_501_tasks(self):
        self.assert_exceeded(500, self.ROW % 500, 0)

    def test_500_tasks_of_one(self):
        text = "plan p n\n  s = 0\n  i = 0\n  while i < n\n    i = i + 1\n    call x leaf(i)\n    wait 1 of x\n"
        text += "    s = s + x\nresult s"
        keys = [p(499)] + [leaf(number) for number in range(1, 500)]
        self.assertEqual(computed(text, 499), (("done", 499 * 250), keys))
        self.assert_exceeded(500, text, 500)

    def test_500_tasks_the_last_of_which_fails_or_stops(self):
        text = "plan p n\n  if n < %d\n    call x p(n + 1)\n    wait 1 of x\n  if n == %d\n    %s\nresult x"
        self.assertEqual(computed(text % (499, 499, "fail 7"), 0)[0], ("failed", 7))
        text = "plan p n\n  call x p((n + 1) * (n < %d))\n  wait 1 of x\nresult x"
        self.assertEqual(computed(text % 499, 0), (None, None))
        self.assert_exceeded(500, text % 500, 0)

    def test_tasks_that_are_only_called_do_not_count(self):
        text = "plan p n\n  i = 0\n  while i < n\n    i = i + 1\n    call x leaf(i)\nresult i"
        self.assertEqual(computed(text, 600), (("done", 600), [p(600)]))

    def test_100000_instructions_in_one_task(self):
        # One instruction ahead of the loop, two for each turn, one for the last look at it, and those behind.
        text = "plan p n\n  i = 0\n  while i < n\n    i = i + 1\n%sresult i"
        for turns, behind in ((49999, 0), (49998, 2), (49989, 20)):
            self.assertEqual(computed(text % ("  work 1\n" * behind), turns), (("done", turns), [p(turns)]))
            self.assert_exceeded(100000, text % ("  work 1\n" * (behind + 1)), turns)
        self.assert_exceeded(100000, text % "", 50000)
        self.assert_exceeded(100000, text % "  fail 1\n", 49999)
        self.assertEqual(computed(text % "  work 1\n  fail 1\n", 49998)[0], ("failed", 1))

    def test_an_endless_loop(self):
        self.assert_exceeded(100000, "plan p\n  while 1\n    work 1\nresult 0")
        self.assert_exceeded(100000, "plan p\n  while 1\n    if 0\n      fail 1\nresult 0")

    def test_100000_instructions_of_several_tasks(self):
        # Each of the four tasks q executes 2 * n + 2, and p the calls, the wait and those behind.
        text = """plan q n m
  i = 0
  while i < n
    i = i + 1
result i
plan p n
  call a q(n, 1)
  call b q(n, 2)
  call c q(n, 3)
  call d q(n, 4)
  wait 4 of a, b, c, d
%sresult a + b + c + d"""
        turns = 12498
        behind = 100000 - 4 * (2 * turns + 2) - 5
        self.assertEqual(computed(text % ("  work 1\n" * behind), turns)[0], ("done", 4 * turns))
        self.assert_exceeded(100000, text % ("  work 1\n" * (behind + 1)), turns)

    def test_each_kind_of_instruction_counts_once(self):
        for kind, many in (("work 1", 1), ("y = 1", 1), ("call y leaf(1)", 1), ("drop x", 1), ("say a", 1), ("if 0", 1),
                           ("if 1", 2), ("while 0", 1), ("call x leaf(1)\n  wait 1 of x", 3), ("fail 1", 1),
                           ("call x leaf(1)\n  catch x", 3)):
            block = "\n    z = 1" if kind in ("if 0", "if 1", "while 0") else ""
            text = f"plan p\n  call x leaf(1)\n  {kind}{block}\nresult 0"
            with mock.patch.object(directly, "MOST_EXECUTED", many + 1):
                self.assertIsNotNone(computed(text)[0], kind)
            with mock.patch.object(directly, "MOST_EXECUTED", many):
                self.assert_exceeded(many, text)

    def test_the_end_of_a_task_is_no_instruction(self):
        with mock.patch.object(directly, "MOST_EXECUTED", 0):
            self.assertEqual(computed("plan p\nresult 3")[0], ("done", 3))
            self.assert_exceeded(0, "plan p\n  work 1\nresult 3")

    def test_a_wait_counts_when_it_begins(self):
        text = "plan p\n  call x leaf(1)\n  wait 1 of x\nresult x"
        with mock.patch.object(directly, "MOST_EXECUTED", 2):
            self.assert_exceeded(2, text)
        with mock.patch.object(directly, "MOST_EXECUTED", 1):
            with mock.patch.object(directly, "MOST_TASKS", 1):
                self.assert_exceeded(1, text)

    def test_which_limit_is_first(self):
        # It executes 2 * n + 3 instructions, and then for each leaf five, ahead of which it begins four, and its own.
        text = """plan p n
  i = 0
  j = 0
  while i < n
    i = i + 1
  while j < 500
    j = j + 1
    call x leaf(j)
    wait 1 of x
%sresult 0"""
        self.assert_exceeded(500, text % "", 40000)
        self.assert_exceeded(100000, text % "", 50000)
        ahead = 3 + 499 * 5 + 4
        self.assertEqual(ahead % 2, 0)
        turns = (100000 - ahead) // 2
        self.assert_exceeded(500, text % "", turns)
        self.assert_exceeded(100000, text % "", turns + 1)

    def test_a_stop_that_is_first(self):
        stop = "  call x leaf(1)\n  drop x\n  catch x\n"
        self.assertEqual(computed(f"plan p\n{stop}  while 1\n    work 1\nresult 0"), (None, None))
        self.assert_exceeded(100000, f"plan p\n  while 1\n    work 1\n{stop}result 0")


class RandomTest(unittest.TestCase):
    def test_beside_a_slow_reading(self):
        counts = {}
        for seed in range(600):
            random = Random(seed)
            program = random_program(random, random.randint(2, 5), 16, determinate=True)
            most_tasks, most_executed = random.choice(((500, 2000), (4, 100), (2, 60), (3, 300), (500, 25)))
            with mock.patch.object(directly, "MOST_TASKS", most_tasks), \
                    mock.patch.object(directly, "MOST_EXECUTED", most_executed):
                for _ in range(4):
                    plan = random.choice(program.names)
                    arguments = tuple(random.randint(0, 2) for _ in program[plan].arguments)
                    expected = readings.Direct(program, most_tasks, most_executed).told((plan, arguments))
                    self.assertEqual(self.told(program, plan, arguments), expected, seed)
                    kind = expected[0][0] if isinstance(expected, tuple) else expected
                    kind = "tasks" if kind == most_tasks else "instructions" if kind == most_executed else kind
                    counts[kind] = counts.get(kind, 0) + 1
        for kind in ("done", "failed", None, "tasks", "instructions"):
            self.assertGreater(counts[kind], 40, kind)

    def told(self, program, plan, arguments):
        try:
            outcome, keys = outcome_of(program, plan, *arguments), needed(program, plan, *arguments)
        except LimitExceeded as exceeded:
            with self.assertRaises(LimitExceeded) as caught:
                needed(program, plan, *arguments)
            self.assertEqual(caught.exception.limit, exceeded.limit)
            return exceeded.limit
        self.assertEqual(outcome is None, keys is None)
        return None if outcome is None else (outcome, keys)

    def outcome(self, program, key):
        """Return the outcome, None also if a limit is exceeded."""
        with mock.patch.object(directly, "MOST_EXECUTED", 3000):
            try:
                return outcome_of(program, key[0], *key[1])
            except LimitExceeded:
                return None

    def came_to(self, hub, key):
        if hub.state(key) == "done":
            return "done", hub.result_of(key)
        return "failed", hub.reason_of(key)

    def test_hubs_come_to_these_outcomes(self):
        checked = {}
        for seed in range(250):
            pair = Pair(self, seed, determinate=True)
            outcomes = {}
            for _ in range(60):
                pair.deed()
                self.check(pair.hub, outcomes, checked)
            for policy in Hub.POLICIES:
                with pair.hub.trial() as hub:
                    for _ in range(3):
                        hub.ask(*pair.wish())
                        self.run_on(hub, policy)
                        self.check(hub, outcomes, checked)
        self.assertEqual(sorted(checked), ["done", "failed"])
        self.assertGreater(min(checked.values()), 1000)

    def run_on(self, hub, policy):
        try:
            hub.run(60, policy)
        except LimitExceeded:
            pass

    def check(self, hub, outcomes, checked):
        """Check all tasks of a hub that are over."""
        for key in hub.tasks:
            if hub.state(key) in ("done", "failed"):
                if key not in outcomes:
                    outcomes[key] = self.outcome(hub.program, key)
                if outcomes[key] is not None:
                    self.assertEqual(self.came_to(hub, key), outcomes[key])
                    checked[hub.state(key)] = checked.get(hub.state(key), 0) + 1

    def test_what_has_an_outcome_comes_to_it(self):
        for seed in range(200):
            random = Random(seed)
            program = random_program(random, 4, 12, determinate=True)
            for plan in program.names:
                arguments = tuple(random.randint(0, 2) for _ in program[plan].arguments)
                outcome = self.outcome(program, (plan, arguments))
                if outcome is None:
                    continue
                for policy in Hub.POLICIES:
                    hub = Hub(program)
                    key = hub.ask("ann", plan, *arguments)
                    # Tasks that are only called may go on for ever, or there may be too many of them.
                    for task in needed(program, plan, *arguments):
                        hub.ask("bob", task[0], *task[1], urgency=9)
                    self.run_on(hub, policy)
                    hub = self.settled(hub, key)
                    self.assertEqual(self.came_to(hub, key), outcome)

    def settled(self, hub, key):
        """Let the tasks that a task waits for make steps until it is over."""
        while hub.state(key) not in ("done", "failed"):
            ready = [task for task in hub.handles("bob") if hub.state(task) in ("new", "ready")]
            hub.pick(ready[0])
        return hub


if __name__ == "__main__":
    unittest.main()
