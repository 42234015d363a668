"""Stuck tasks, the sets that show that tasks are stuck, and rings."""

import unittest

from observing import Contrary, HubCase, deep_tuple, seen
from wantedwork.errors import InvalidPolicy
from wantedwork.hubs import Hub
from wantedwork.language import parse_program
from wantedwork.stopping import is_stuck_set, ring, stuck
from wantedwork.wanting import is_cut, paused, wanted

LEAF = "plan leaf n\n  work 1\nresult n\nplan bad n\n  work 1\n  fail n\nresult 0\n"
PAIR = parse_program("""plan left
  call x right()
  wait 1 of x
result x
plan right
  call x left()
  catch x
result reason x""")
LEFT, RIGHT = ("left", ()), ("right", ())


def hub_of(text, *asked):
    """Return a hub of a program with leaves on which ann holds tasks."""
    hub = Hub(parse_program(LEAF + text))
    for plan in asked:
        hub.ask("ann", plan)
    return hub


def waiting_hub(calls, wait, *drops):
    """Return a hub on which a task a has made these calls and drops, and waits; hold is a task that waits for a."""
    rows = ["plan a"] + ["  call " + call for call in calls] + ["  drop " + name for name in drops] + ["  " + wait]
    text = "\n".join(rows + ["result 0", "plan hold", "  call x a()", "  wait 1 of x", "result 0"])
    hub = hub_of(text, "hold")
    for key in (("hold", ()), *[("a", ())] * (len(calls) + len(drops))):
        hub.pick(key)
    return hub


A, HOLD = ("a", ()), ("hold", ())
ONE, TWO, BAD = ("leaf", (1,)), ("leaf", (2,)), ("bad", (1,))


def finish(hub, *keys):
    """Let tasks be over."""
    for key in keys:
        hub.ask("zoe", key[0], *key[1])
        while hub.state(key) not in ("done", "failed"):
            hub.pick(key)


class StuckTest(HubCase):
    def test_no_tasks(self):
        hub = Hub(PAIR)
        self.assertEqual((stuck(hub), ring(hub)), ([], None))

    def test_two_that_wait_for_one_another(self):
        hub = Hub(PAIR)
        hub.ask("ann", "left")
        self.assertEqual(stuck(hub), [])
        hub.run(1)
        self.assertEqual((hub.state(LEFT), stuck(hub)), ("waiting", []))
        hub.run(100)
        self.assertEqual((stuck(hub), ring(hub)), ([LEFT, RIGHT], [LEFT, RIGHT]))

    def test_paused_tasks_are_not_stuck(self):
        hub = Hub(PAIR)
        hub.ask("ann", "left")
        hub.run(100)
        hub.drop("ann", LEFT)
        self.assertEqual((stuck(hub), ring(hub), paused(hub)), ([], None, [LEFT, RIGHT]))
        self.assertIs(is_stuck_set(hub, [LEFT, RIGHT]), True)
        hub.ask("bob", "right")
        self.assertEqual(stuck(hub), [LEFT, RIGHT])

    def test_a_task_that_waits_for_itself(self):
        for wait in ("wait 1 of x", "catch x"):
            hub = waiting_hub(["x a()"], wait)
            self.assertEqual((stuck(hub), ring(hub)), ([HOLD, A], [A]))
            self.assertIs(is_stuck_set(hub, [A]), True)

    def test_a_task_that_only_holds_itself(self):
        hub = waiting_hub(["x a()", "y leaf(1)"], "wait 1 of y")
        self.assertEqual((hub.holds(A), stuck(hub), is_stuck_set(hub, [A])), ([A, ONE], [], False))

    def test_variables_that_are_not_tied(self):
        for wait in ("wait 1 of x", "catch x"):
            hub = waiting_hub(["x leaf(1)"], wait, "x")
            self.assertEqual((stuck(hub), ring(hub)), ([HOLD, A], None))
            self.assertIs(is_stuck_set(hub, [A]), True)
            self.assertIs(is_stuck_set(hub, [HOLD, A]), True)
            self.assertIs(is_stuck_set(hub, [HOLD]), False)

    def test_a_task_that_can_only_fail_counts_as_one_that_may_be_done(self):
        hub = waiting_hub(["x bad(1)"], "wait 1 of x")
        self.assertEqual((stuck(hub), is_stuck_set(hub, [A])), ([], False))
        hub = waiting_hub(["x bad(1)", "y leaf(1)"], "wait 1 of x, y", "y")
        self.assertEqual((stuck(hub), is_stuck_set(hub, [A])), ([], False))
        finish(hub, BAD)
        self.assertEqual((stuck(hub), is_stuck_set(hub, [A])), ([HOLD, A], True))

    def test_a_lost_wait_is_not_waiting(self):
        hub = waiting_hub(["x bad(1)"], "wait 1 of x")
        finish(hub, BAD)
        self.assertEqual((hub.state(A), stuck(hub), is_stuck_set(hub, [A])), ("ready", [], False))

    def test_waits_with_more_tied_variables_than_their_number(self):
        hub = waiting_hub(["x leaf(1)", "y leaf(2)", "z a()"], "wait 1 of x, y, z")
        self.assertEqual((stuck(hub), is_stuck_set(hub, [A])), ([], False))
        hub = waiting_hub(["x leaf(1)", "y leaf(2)", "z a()"], "wait 2 of x, y, z")
        self.assertEqual((stuck(hub), is_stuck_set(hub, [A])), ([], False))
        finish(hub, ONE)
        self.assertEqual((hub.state(A), stuck(hub), is_stuck_set(hub, [A])), ("waiting", [], False))

    def test_waits_with_fewer_than_their_number(self):
        hub = waiting_hub(["x leaf(1)", "y leaf(2)", "z a()"], "wait 3 of x, y, z")
        self.assertEqual((stuck(hub), ring(hub), is_stuck_set(hub, [A])), ([HOLD, A], [A], True))
        finish(hub, ONE, TWO)
        self.assertEqual((stuck(hub), ring(hub), is_stuck_set(hub, [A])), ([HOLD, A], [A], True))

    def test_done_and_unfinished_ones_count_together(self):
        hub = waiting_hub(["x leaf(1)", "y leaf(2)", "z bad(1)", "w a()"], "wait 3 of x, y, z, w")
        finish(hub, ONE)
        self.assertEqual((stuck(hub), is_stuck_set(hub, [A])), ([], False))
        finish(hub, BAD)
        self.assertEqual((stuck(hub), is_stuck_set(hub, [A])), ([HOLD, A], True))

    def test_waits_with_as_many_and_an_untied_variable(self):
        hub = waiting_hub(["x leaf(1)", "y leaf(2)"], "wait 1 of x, y", "x")
        self.assertEqual((stuck(hub), is_stuck_set(hub, [A])), ([], False))
        hub = waiting_hub(["x leaf(1)", "y leaf(2)"], "wait 2 of x, y", "x")
        self.assertEqual((stuck(hub), is_stuck_set(hub, [A])), ([HOLD, A], True))

    def test_waits_whose_variables_are_all_tied_to_others(self):
        hub = waiting_hub(["x leaf(1)", "y bad(1)"], "wait 2 of x, y")
        finish(hub, BAD)
        self.assertEqual((hub.state(A), stuck(hub), is_stuck_set(hub, [A])), ("waiting", [], False))

    def test_several_variables_tied_to_one_task_count_each(self):
        hub = waiting_hub(["x leaf(1)", "y leaf(1)", "z a()"], "wait 2 of x, y, z")
        self.assertEqual((stuck(hub), is_stuck_set(hub, [A])), ([], False))

    def test_catches(self):
        hub = waiting_hub(["x leaf(1)", "y bad(1)"], "catch x, y")
        self.assertEqual((stuck(hub), is_stuck_set(hub, [A])), ([], False))
        hub = waiting_hub(["x leaf(1)", "y a()"], "catch x, y")
        self.assertEqual((stuck(hub), ring(hub), is_stuck_set(hub, [A])), ([HOLD, A], [A], True))
        finish(hub, ONE)
        self.assertEqual((stuck(hub), is_stuck_set(hub, [A])), ([HOLD, A], True))
        hub = waiting_hub(["x leaf(1)", "y leaf(2)"], "catch x, y", "y")
        self.assertEqual((stuck(hub), is_stuck_set(hub, [A])), ([HOLD, A], True))

    def test_catches_of_tasks_that_are_over_or_free(self):
        hub = waiting_hub(["x leaf(1)", "y bad(1)"], "catch x, y")
        finish(hub, BAD)
        self.assertEqual((hub.state(A), stuck(hub), is_stuck_set(hub, [A])), ("waiting", [], False))

    def test_free_tasks_free_those_that_wait_for_them(self):
        text = "\n".join("plan p" + "abcde"[at] + "\n  call x p" + "bcdef"[at] + "()\n  wait 1 of x\nresult x"
                         for at in range(5)) + "\nplan pf\n  call x leaf(1)\n  call y pa()\n  wait %d of x, y\nresult x"
        names = ["p" + letter for letter in "abcdef"]
        for start in range(6):
            keys = [(name, ()) for name in names[start:] + names[:start]]
            for number, found in ((1, []), (2, keys)):
                hub = hub_of(text % number, keys[0][0])
                for key in keys:
                    while hub.state(key) != "waiting":
                        hub.pick(key)
                self.assertEqual((len(hub), stuck(hub)), (7, found))

    def test_new_and_ready_tasks_are_free(self):
        hub = Hub(PAIR)
        hub.ask("ann", "left")
        self.assertEqual((hub.state(LEFT), stuck(hub)), ("new", []))
        hub = hub_of("plan p\n  call x p()\n  work 1\n  wait 1 of x\nresult 0", "p")
        hub.run(1)
        self.assertEqual((hub.state(("p", ())), stuck(hub)), ("ready", []))
        hub.run(1)
        self.assertEqual(stuck(hub), [("p", ())])

    def test_a_task_that_is_over_waits_for_nothing(self):
        hub = hub_of("plan p\n  call x p()\n  if 1\n    fail 1\n  wait 1 of x\nresult 0", "p")
        hub.run(3)
        self.assertEqual((hub.state(("p", ())), stuck(hub), is_stuck_set(hub, [("p", ())])), ("failed", [], False))

    def test_a_must_that_is_stuck(self):
        hub = hub_of("must p\n  call x p()\n  wait 1 of x\nresult 0", "p")
        hub.run(1)
        hub.drop("ann", ("p", ()))
        self.assertEqual((wanted(hub), stuck(hub), ring(hub)), ([("p", ())], [("p", ())], [("p", ())]))

    def test_paused_free_tasks_and_stuck_ones(self):
        hub = waiting_hub(["x leaf(1)", "y a()"], "wait 2 of x, y")
        hub.drop("ann", HOLD)
        self.assertEqual((stuck(hub), is_cut(hub, [HOLD])), ([], True))
        self.assertIs(is_stuck_set(hub, [A]), True)

    def test_a_row_as_long_as_the_hub(self):
        text = "plan p n\n  call x p((n + 1) * (n < 499))\n  wait 1 of x\nresult 0"
        hub = Hub(parse_program(text))
        hub.ask("ann", "p", 250)
        hub.run(10000)
        keys = [("p", (number,)) for number in list(range(250, 500)) + list(range(250))]
        self.assertEqual((len(hub), stuck(hub), ring(hub)), (500, keys, keys))
        self.assertIs(is_stuck_set(hub, keys[::-1]), True)
        self.assertIs(is_stuck_set(hub, keys[:-1]), False)

    def test_nothing_changes(self):
        hub = waiting_hub(["x leaf(1)", "y a()"], "wait 2 of x, y")
        before = seen(hub)
        stuck(hub), ring(hub), is_stuck_set(hub, [A])
        self.assertEqual(seen(hub), before)

    def test_the_lists_are_new(self):
        hub = waiting_hub(["x a()"], "catch x")
        stuck(hub).clear()
        ring(hub).clear()
        self.assertEqual((stuck(hub), ring(hub)), ([HOLD, A], [A]))

    def test_arguments_by_name(self):
        hub = waiting_hub(["x a()"], "catch x")
        self.assertEqual((stuck(hub=hub), ring(hub=hub), is_stuck_set(value=[A], hub=hub)), ([HOLD, A], [A], True))

    def test_stuck_tasks_make_no_step(self):
        hub = waiting_hub(["x leaf(1)", "y a()"], "wait 2 of x, y")
        hub.run(100)
        for key in stuck(hub):
            self.assert_raises(hub, InvalidPolicy, "value", key, hub.pick, key)


class StuckSetTest(HubCase):
    def test_each_of_two(self):
        hub = Hub(PAIR)
        hub.ask("ann", "left")
        hub.run(100)
        for value in ([LEFT, RIGHT], [RIGHT, LEFT]):
            self.assertIs(is_stuck_set(hub, value), True)
        for value in ([LEFT], [RIGHT], []):
            self.assertIs(is_stuck_set(hub, value), False)

    def test_a_task_that_stands_there_twice(self):
        hub = waiting_hub(["x a()"], "catch x")
        self.assertIs(is_stuck_set(hub, [A, A]), False)
        self.assertIs(is_stuck_set(hub, [A, HOLD, A]), False)

    def test_tasks_that_are_not_waiting(self):
        hub = waiting_hub(["x leaf(1)", "y a()"], "wait 2 of x, y")
        for state in ("new", "ready", "done"):
            self.assertEqual(hub.state(ONE), state)
            self.assertIs(is_stuck_set(hub, [A, ONE]), False)
            self.assertIs(is_stuck_set(hub, [ONE]), False)
            if state != "done":
                hub.pick(ONE)
        self.assertIs(is_stuck_set(hub, [A]), True)

    def test_a_task_that_has_begun_no_wait_yet(self):
        hub = Hub(PAIR)
        hub.ask("ann", "left")
        hub.run(1)
        self.assertEqual(hub.state(RIGHT), "new")
        self.assertIs(is_stuck_set(hub, [LEFT, RIGHT]), False)

    def test_one_that_does_not_belong_to_it(self):
        hub = waiting_hub(["x a()"], "catch x")
        hub.ask("ann", "leaf", 1)
        self.assertIs(is_stuck_set(hub, [A, HOLD]), True)
        free = hub_of("plan p\n  call x leaf(1)\n  wait 1 of x\nresult 0\nplan q\n  call x q()\n  catch x\nresult 0", "p", "q")
        free.pick(("p", ()))
        free.pick(("q", ()))
        self.assertIs(is_stuck_set(free, [("q", ())]), True)
        self.assertIs(is_stuck_set(free, [("q", ()), ("p", ())]), False)
        self.assertIs(is_stuck_set(free, [("p", ()), ("q", ())]), False)

    def test_other_values(self):
        hub = waiting_hub(["x a()"], "catch x")
        for value in (None, 1, "a", A, (A,), {A: 1}, {A}, (), {}, object(), Contrary(), deep_tuple()):
            self.assertIs(is_stuck_set(hub, value), False)

    def test_other_keys(self):
        hub = hub_of("plan q n\n  call x q(n)\n  catch x\nresult 0")
        key = hub.ask("ann", "q", 1)
        hub.tick()
        self.assertIs(is_stuck_set(hub, [key]), True)
        for value in (None, "q", ("q",), ("q", 1), ("q", (True,)), ("q", (1.0,)), ("q", [1]), ["q", (1,)], ("q", ()),
                      ("q", (2,)), ("q", (1, 1)), {}, [], [key], Contrary(), ("q", Contrary()), deep_tuple()):
            self.assertIs(is_stuck_set(hub, [value]), False)
            self.assertIs(is_stuck_set(hub, [key, value]), False)

    def test_a_set_of_half_of_the_stuck_ones(self):
        hub = hub_of("plan q n\n  call x q(n)\n  catch x\nresult 0")
        keys = [hub.ask("ann", "q", number) for number in range(4)]
        hub.run(100)
        self.assertEqual(stuck(hub), keys)
        for value in (keys[1:3], keys[3:], [keys[3], keys[0]]):
            self.assertIs(is_stuck_set(hub, value), True)

    def test_the_value_is_not_changed(self):
        hub = waiting_hub(["x a()"], "catch x")
        value = [HOLD, A]
        is_stuck_set(hub, value)
        self.assertEqual(value, [HOLD, A])


class RingTest(HubCase):
    def test_the_first_one_has_the_least_number(self):
        text = "plan p n\n  call x p(2 * (n == 1) + 3 * (n == 2) + (n == 3))\n  wait 1 of x\nresult 0"
        keys = {number: ("p", (number,)) for number in (1, 2, 3)}
        for first, row in ((1, [1, 2, 3]), (2, [2, 3, 1]), (3, [3, 1, 2])):
            hub = Hub(parse_program(text))
            hub.ask("ann", "p", first)
            hub.run(100)
            self.assertEqual(ring(hub), [keys[number] for number in row])
        hub = Hub(parse_program(text))
        for number in (3, 2, 1):
            hub.ask("ann", "p", number)
        hub.run(100)
        self.assertEqual(ring(hub), [keys[number] for number in (3, 1, 2)])

    def test_a_way_into_a_ring(self):
        text = "plan p n\n  call x p(n + 1 - 3 * (n == 5))\n  catch x\nresult 0"
        hub = Hub(parse_program(text))
        hub.ask("ann", "p", 0)
        hub.run(100)
        self.assertEqual((len(stuck(hub)), ring(hub)), (6, [("p", (3,)), ("p", (4,)), ("p", (5,))]))

    def test_a_way_out_of_a_ring_that_has_an_end(self):
        text = """plan p
  call x end()
  call y q()
  wait 2 of x, y
result 0
plan q
  call x end()
  call y p()
  catch x, y
result 0
plan end
  call x leaf(1)
  drop x
  catch x
result 0"""
        hub = hub_of(text, "p")
        hub.run(100)
        self.assertEqual((stuck(hub), ring(hub)), ([("p", ()), ("end", ()), ("q", ())], [("p", ()), ("q", ())]))

    def test_no_ring_through_ties_that_are_not_waited_for(self):
        text = "plan p\n  call y p()\n  call x leaf(1)\n  drop x\n  wait 1 of x\nresult 0"
        hub = hub_of(text, "p")
        hub.run(100)
        self.assertEqual((hub.holds(("p", ())), stuck(hub), ring(hub)), ([("p", ())], [("p", ())], None))

    def test_no_ring_of_tasks_that_are_not_stuck(self):
        text = "plan p\n  call x q()\n  call y leaf(1)\n  wait 1 of x, y\nresult 0\nplan q\n  call x p()\n  catch x\nresult 0"
        hub = hub_of(text, "p")
        for key in (("p", ()), ("p", ()), ("q", ())):
            hub.pick(key)
        self.assertEqual([hub.state(key) for key in hub.tasks], ["waiting", "waiting", "new"])
        self.assertEqual((stuck(hub), ring(hub)), ([], None))

    def test_tasks_of_several_rings(self):
        text = "plan q n\n  call x q(n)\n  call y q(0)\n  catch x, y\nresult 0"
        hub = hub_of(text)
        keys = [hub.ask("ann", "q", number) for number in (1, 2)]
        hub.run(100)
        self.assertEqual(stuck(hub), [*keys, ("q", (0,))])
        self.assertIn(ring(hub), [[key] for key in stuck(hub)])

    def test_a_ring_of_paused_tasks_is_none(self):
        hub = hub_of("plan q n\n  call x q(n)\n  catch x\nresult 0")
        keys = [hub.ask("ann", "q", number) for number in (1, 2)]
        hub.run(100)
        hub.drop("ann", keys[0])
        self.assertEqual((stuck(hub), ring(hub)), ([keys[1]], [keys[1]]))
        hub.drop("ann", keys[1])
        self.assertEqual((stuck(hub), ring(hub)), ([], None))


if __name__ == "__main__":
    unittest.main()
