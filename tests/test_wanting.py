"""Wanted and paused tasks, the users that reach them, and the chains and cuts that show it."""

import unittest

from observing import Contrary, HubCase, NO_WORDS, deep_tuple, seen
from wantedwork.errors import UnknownTask
from wantedwork.hubs import Hub
from wantedwork.language import parse_program
from wantedwork.wanting import chain, is_chain, is_cut, is_wanted, paused, users_of, wanted

PROGRAM = parse_program("""plan job n
  work 1
result n
must duty n
  work 1
  call x job(n)
  wait 1 of x
result n
plan boss n
  call x job(n)
  call y job(n + 1)
  wait 2 of x, y
result x
plan loop n
  call x loop(1 - n)
  call y job(n)
  work 1
  work 1
  work 1
  wait 1 of x
result 0
plan row n
  if n < 499
    call x row(n + 1)
    wait 1 of x
result n
plan bad
  call x job(1)
  fail 3
result 0""")

JOB, OTHER, DUTY, BOSS = ("job", (1,)), ("job", (2,)), ("duty", (1,)), ("boss", (1,))
LEFT, RIGHT = ("loop", (0,)), ("loop", (1,))

# Values that are no keys of the tasks below, though Python calls some of them equal to one.
NO_KEYS = (
    None, 1, True, "job", "job(1)", (), ("job",), ("job", 1), ("job", (1,), ()), ("job", [1]), ["job", (1,)],
    ("job", (True,)), ("job", (1.0,)), ("job", ("1",)), ("job", (1, 1)), ("job", ()), ("job", (3,)), ("jab", (1,)),
    (b"job", (1,)), (("job",), (1,)), (["job"], (1,)), {"job": 1}, {"job"}, object(), Contrary(), ("job", Contrary()),
    ("job", (Contrary(),)), (Contrary(), (1,)), ("job", ([],)), ("job", (-1,)), ("job", (1000000007,)), deep_tuple(),
    ("job", deep_tuple()),
)


def hub_of(*asked, patience=10):
    """Return a hub on which ann holds tasks."""
    hub = Hub(PROGRAM, patience=patience)
    for plan, number in asked:
        hub.ask("ann", plan, number)
    return hub


def ring_hub():
    """Return a hub on which two tasks hold one another, and the first one two jobs."""
    hub = hub_of(("loop", 0))
    hub.pick(LEFT)
    hub.pick(RIGHT)
    hub.pick(LEFT)
    return hub


class WantedTest(HubCase):
    def test_no_tasks(self):
        hub = Hub(PROGRAM)
        self.assertEqual((wanted(hub), paused(hub)), ([], []))

    def test_tasks_with_handles_are_wanted(self):
        hub = hub_of(("job", 2), ("job", 1))
        hub.ask("bob", "job", 5)
        hub.drop("bob", ("job", (5,)))
        self.assertEqual((wanted(hub), paused(hub)), ([OTHER, JOB], [("job", (5,))]))

    def test_each_of_several_handles_is_enough(self):
        hub = hub_of(("job", 1))
        hub.ask("bob", "job", 1)
        hub.drop("ann", JOB)
        self.assertEqual(wanted(hub), [JOB])
        hub.pass_on("bob", "cleo", JOB)
        self.assertEqual((wanted(hub), users_of(hub, JOB)), ([JOB], ["cleo"]))
        hub.drop("cleo", JOB)
        self.assertEqual((wanted(hub), paused(hub)), ([], [JOB]))

    def test_lists_are_by_the_numbers_not_by_how_they_were_found(self):
        hub = hub_of(("job", 2), ("boss", 1))
        hub.drop("ann", OTHER)
        hub.pick(BOSS)
        self.assertEqual((wanted(hub), paused(hub)), ([BOSS, JOB], [OTHER]))
        hub.pick(BOSS)
        self.assertEqual((wanted(hub), paused(hub)), ([OTHER, BOSS, JOB], []))

    def test_paused_tasks_by_their_numbers(self):
        hub = hub_of(("boss", 1), ("job", 7), ("job", 6))
        hub.pick(BOSS)
        for key in (("job", (6,)), BOSS, ("job", (7,))):
            hub.drop("ann", key)
        self.assertEqual(paused(hub), [BOSS, ("job", (7,)), ("job", (6,)), JOB])

    def test_tasks_that_are_over_are_neither(self):
        hub = hub_of(("job", 1))
        hub.ask("ann", "bad")
        hub.run(100)
        self.assertEqual((hub.state(JOB), hub.state(("bad", ()))), ("done", "failed"))
        self.assertEqual((wanted(hub), paused(hub), is_wanted(hub, JOB)), ([], [], False))

    def test_what_a_failed_task_held_is_paused(self):
        hub = hub_of()
        hub.ask("ann", "bad")
        hub.tick()
        self.assertEqual(wanted(hub), [("bad", ()), JOB])
        hub.tick()
        self.assertEqual((wanted(hub), paused(hub)), ([], [JOB]))

    def test_a_task_that_must_finish_and_has_made_no_step_is_paused(self):
        hub = hub_of(("duty", 1))
        hub.drop("ann", DUTY)
        self.assertEqual((wanted(hub), paused(hub), is_wanted(hub, DUTY)), ([], [DUTY], False))

    def test_a_task_that_must_finish_and_has_made_a_step_is_wanted(self):
        hub = hub_of(("duty", 1))
        hub.tick()
        hub.drop("ann", DUTY)
        self.assertEqual((wanted(hub), paused(hub), is_wanted(hub, DUTY)), ([DUTY], [], True))
        hub.tick()
        self.assertEqual((wanted(hub), users_of(hub, JOB)), ([DUTY, JOB], []))
        hub.run(100)
        self.assertEqual((hub.state(DUTY), wanted(hub), paused(hub)), ("done", [], []))

    def test_a_task_that_need_not_finish_is_paused_behind_its_steps(self):
        hub = hub_of(("boss", 1))
        hub.tick()
        hub.drop("ann", BOSS)
        self.assertEqual((wanted(hub), paused(hub)), ([], [BOSS, JOB]))

    def test_tasks_that_hold_one_another_are_paused_without_a_user(self):
        hub = ring_hub()
        self.assertEqual(wanted(hub), [LEFT, RIGHT, ("job", (0,))])
        hub.drop("ann", LEFT)
        self.assertEqual((wanted(hub), paused(hub)), ([], [LEFT, RIGHT, ("job", (0,))]))
        hub.ask("bob", "loop", 1)
        self.assertEqual((wanted(hub), paused(hub)), ([LEFT, RIGHT, ("job", (0,))], []))

    def test_forgotten_tasks_are_neither(self):
        hub = hub_of(("job", 1), patience=0)
        hub.drop("ann", JOB)
        self.assertEqual(paused(hub), [JOB])
        hub.tick()
        self.assertEqual((wanted(hub), paused(hub), is_wanted(hub, JOB)), ([], [], False))

    def test_a_tick_is_as_the_lists_tell(self):
        hub = hub_of(("boss", 1), ("boss", 5))
        hub.run(3)
        hub.drop("ann", BOSS)
        told = paused(hub)
        hub.tick()
        self.assertEqual([key for key in hub.tasks if hub.rest(key) > 0], told)

    def test_is_wanted_takes_any_value(self):
        hub = hub_of(("job", 1))
        self.assertIs(is_wanted(hub, JOB), True)
        for value in NO_KEYS:
            self.assertIs(is_wanted(hub, value), False)

    def test_the_lists_are_new(self):
        hub = hub_of(("job", 1), ("job", 2))
        hub.drop("ann", JOB)
        for function in (wanted, paused):
            function(hub).append(1)
            self.assertEqual(len(function(hub)), 1)
        hub.tick()
        self.assertEqual((hub.rest(JOB), hub.rest(OTHER), hub.steps(OTHER)), (1, 0, 1))

    def test_arguments_by_name(self):
        hub = hub_of(("job", 1))
        self.assertEqual((wanted(hub=hub), paused(hub=hub), is_wanted(key=JOB, hub=hub)), ([JOB], [], True))
        self.assertEqual((users_of(key=JOB, hub=hub), chain(key=JOB, hub=hub)), (["ann"], ["ann", JOB]))
        self.assertIs(is_chain(value=["ann", JOB], key=JOB, hub=hub), True)
        self.assertIs(is_cut(value=[], hub=hub), True)

    def test_in_a_trial(self):
        hub = hub_of(("job", 1))
        with hub.trial():
            hub.drop("ann", JOB)
            self.assertEqual((wanted(hub), paused(hub), chain(hub, JOB)), ([], [JOB], None))
        self.assertEqual((wanted(hub), paused(hub), chain(hub, JOB)), ([JOB], [], ["ann", JOB]))


class UsersTest(HubCase):
    def test_users_by_handles_and_through_tasks(self):
        hub = hub_of(("boss", 1))
        hub.ask("dan", "boss", 2)
        hub.ask("bob", "job", 2)
        for key in (BOSS, BOSS, ("boss", (2,))):
            hub.pick(key)
        self.assertEqual([users_of(hub, key) for key in (BOSS, JOB, OTHER)], [["ann"], ["ann"], ["ann", "bob", "dan"]])

    def test_a_user_that_reaches_a_task_twice_is_told_once(self):
        hub = hub_of(("boss", 1), ("job", 1))
        hub.pick(BOSS)
        self.assertEqual(users_of(hub, JOB), ["ann"])

    def test_users_in_a_ring(self):
        hub = ring_hub()
        hub.ask("bob", "loop", 1)
        for key in (LEFT, RIGHT, ("job", (0,))):
            self.assertEqual(users_of(hub, key), ["ann", "bob"])
        hub.drop("ann", LEFT)
        hub.drop("bob", RIGHT)
        self.assertEqual(users_of(hub, LEFT), [])

    def test_users_of_paused_tasks_and_of_ones_that_only_must_finish(self):
        hub = hub_of(("duty", 1), ("job", 2))
        hub.drop("ann", OTHER)
        hub.tick()
        hub.drop("ann", DUTY)
        self.assertEqual((users_of(hub, OTHER), users_of(hub, DUTY)), ([], []))

    def test_users_of_a_task_that_is_over_are_those_with_handles(self):
        hub = hub_of(("boss", 1))
        hub.tick()
        hub.tick()
        hub.ask("dan", "job", 1)
        hub.ask("bob", "job", 1)
        hub.pick(JOB)
        self.assertEqual(users_of(hub, JOB), ["ann", "bob", "dan"])
        hub.pick(JOB)
        self.assertEqual((hub.state(JOB), hub.holds(BOSS), users_of(hub, JOB)), ("done", [JOB, OTHER], ["bob", "dan"]))
        hub.drop("bob", JOB)
        hub.drop("dan", JOB)
        self.assertEqual(users_of(hub, JOB), [])

    def test_a_task_that_is_over_reaches_nothing(self):
        hub = hub_of()
        hub.ask("ann", "bad")
        hub.run(2)
        self.assertEqual((hub.state(("bad", ())), users_of(hub, JOB), users_of(hub, ("bad", ()))), ("failed", [], ["ann"]))

    def test_the_list_is_new(self):
        hub = hub_of(("job", 1))
        users_of(hub, JOB).append("bob")
        self.assertEqual((users_of(hub, JOB), hub.users), (["ann"], ["ann"]))

    def test_unknown_tasks(self):
        hub = hub_of(("job", 1))
        for value in NO_KEYS:
            self.assert_raises(hub, UnknownTask, "key", value, users_of, hub, value)


class ChainTest(HubCase):
    def test_a_chain_of_a_task_with_a_handle(self):
        hub = hub_of(("job", 1))
        self.assertEqual(chain(hub, JOB), ["ann", JOB])

    def test_a_chain_through_tasks(self):
        hub = hub_of(("boss", 1))
        hub.tick()
        self.assertEqual(chain(hub, JOB), ["ann", BOSS, JOB])

    def test_a_chain_that_begins_with_none(self):
        hub = hub_of(("duty", 1))
        hub.run(2)
        hub.drop("ann", DUTY)
        self.assertEqual((chain(hub, DUTY), chain(hub, JOB)), ([None, DUTY], [None, DUTY, JOB]))

    def test_no_chain(self):
        hub = hub_of(("duty", 1), ("job", 2), ("boss", 7))
        for key in (DUTY, OTHER):
            hub.drop("ann", key)
        hub.run(100)
        self.assertEqual(hub.state(("boss", (7,))), "done")
        self.assertEqual([chain(hub, key) for key in (DUTY, OTHER, ("boss", (7,)))], [None, None, None])

    def test_no_chain_of_a_task_that_is_over_though_a_wanted_one_holds_it(self):
        hub = hub_of(("boss", 1))
        hub.tick()
        hub.pick(JOB)
        hub.pick(JOB)
        self.assertEqual((hub.holds(BOSS), hub.state(JOB), chain(hub, JOB)), ([JOB], "done", None))

    def test_no_chain_through_a_task_that_is_over(self):
        hub = hub_of()
        hub.ask("ann", "bad")
        hub.run(2)
        self.assertIsNone(chain(hub, JOB))

    def test_chains_in_a_ring(self):
        hub = ring_hub()
        self.assertEqual(chain(hub, RIGHT), ["ann", LEFT, RIGHT])
        hub.drop("ann", LEFT)
        self.assertEqual([chain(hub, key) for key in hub.tasks], [None, None, None])

    def test_a_chain_as_long_as_the_hub(self):
        hub = hub_of(("row", 0))
        hub.run(10000)
        self.assertEqual((len(hub), hub.state(("row", (499,)))), (500, "done"))
        hub = hub_of(("row", 0))
        hub.run(998)
        keys = [("row", (number,)) for number in range(500)]
        self.assertEqual((hub.tasks, wanted(hub), hub.state(("row", (499,)))), (keys, keys, "new"))
        found = chain(hub, ("row", (499,)))
        self.assertEqual(found, ["ann", *keys])
        self.assertIs(is_chain(hub, ("row", (499,)), found), True)
        self.assertEqual(users_of(hub, ("row", (499,))), ["ann"])
        hub.drop("ann", ("row", (0,)))
        self.assertEqual((chain(hub, ("row", (499,))), paused(hub), is_cut(hub, keys)), (None, keys, True))
        self.assertIs(is_cut(hub, keys[1:]), False)
        self.assertIs(is_cut(hub, keys[:250]), True)

    def test_the_list_is_new(self):
        hub = hub_of(("job", 1))
        chain(hub, JOB).append(OTHER)
        self.assertEqual(chain(hub, JOB), ["ann", JOB])

    def test_unknown_tasks(self):
        hub = hub_of(("job", 1))
        for value in NO_KEYS:
            self.assert_raises(hub, UnknownTask, "key", value, chain, hub, value)

    def test_nothing_changes(self):
        hub = ring_hub()
        before = seen(hub)
        for key in hub.tasks:
            chain(hub, key), users_of(hub, key), is_wanted(hub, key)
        wanted(hub), paused(hub), is_cut(hub, hub.tasks), is_chain(hub, LEFT, ["ann", LEFT])
        self.assertEqual(seen(hub), before)


class IsChainTest(HubCase):
    def test_chains(self):
        hub = hub_of(("boss", 1))
        hub.tick()
        self.assertIs(is_chain(hub, BOSS, ["ann", BOSS]), True)
        self.assertIs(is_chain(hub, JOB, ["ann", BOSS, JOB]), True)

    def test_a_chain_for_another_task(self):
        hub = hub_of(("boss", 1))
        hub.tick()
        for key in (BOSS, OTHER, *NO_KEYS):
            self.assertIs(is_chain(hub, key, ["ann", BOSS, JOB]), False)

    def test_the_first_must_hold_the_next_one(self):
        hub = hub_of(("boss", 1))
        hub.tick()
        hub.ask("bob", "job", 1)
        self.assertIs(is_chain(hub, JOB, ["bob", JOB]), True)
        for first in ("bob", "cleo", *NO_WORDS):
            self.assertIs(is_chain(hub, JOB, [first, BOSS, JOB]), False)
        self.assertIs(is_chain(hub, JOB, ["ann", JOB]), False)

    def test_none_is_first_if_the_next_one_must_finish_and_has_begun(self):
        hub = hub_of(("duty", 1), ("job", 1))
        self.assertIs(is_chain(hub, DUTY, [None, DUTY]), False)
        hub.pick(DUTY)
        self.assertIs(is_chain(hub, DUTY, [None, DUTY]), True)
        self.assertIs(is_chain(hub, DUTY, ["ann", DUTY]), True)
        hub.pick(DUTY)
        hub.pick(JOB)
        self.assertIs(is_chain(hub, JOB, [None, DUTY, JOB]), True)
        self.assertIs(is_chain(hub, JOB, [None, JOB]), False)

    def test_each_one_holds_the_next_one(self):
        hub = hub_of(("boss", 1), ("job", 2))
        hub.pick(BOSS)
        self.assertIs(is_chain(hub, OTHER, ["ann", BOSS, OTHER]), False)
        self.assertIs(is_chain(hub, OTHER, ["ann", BOSS, JOB, OTHER]), False)
        self.assertIs(is_chain(hub, BOSS, ["ann", OTHER, BOSS]), False)
        hub.pick(BOSS)
        self.assertIs(is_chain(hub, OTHER, ["ann", BOSS, OTHER]), True)
        self.assertIs(is_chain(hub, OTHER, ["ann", BOSS, JOB, OTHER]), False)

    def test_all_are_unfinished(self):
        hub = hub_of(("boss", 1), ("job", 1))
        hub.pick(BOSS)
        hub.pick(JOB)
        hub.pick(JOB)
        self.assertEqual((hub.state(JOB), hub.holds(BOSS)), ("done", [JOB]))
        self.assertIs(is_chain(hub, JOB, ["ann", BOSS, JOB]), False)
        self.assertIs(is_chain(hub, JOB, ["ann", JOB]), False)

    def test_chains_that_meet_tasks_more_than_once(self):
        hub = ring_hub()
        self.assertIs(is_chain(hub, LEFT, ["ann", LEFT, RIGHT, LEFT]), True)
        self.assertIs(is_chain(hub, RIGHT, ["ann"] + [LEFT, RIGHT] * 900), True)
        self.assertIs(is_chain(hub, LEFT, ["ann", LEFT, LEFT]), False)
        self.assertIs(is_chain(hub, LEFT, ["ann", LEFT, RIGHT, LEFT, RIGHT]), False)

    def test_a_task_that_holds_itself(self):
        hub = Hub(parse_program("plan me\n  call x me()\n  work 1\nresult 0"))
        me = hub.ask("ann", "me")
        self.assertIs(is_chain(hub, me, ["ann", me, me]), False)
        hub.tick()
        self.assertIs(is_chain(hub, me, ["ann", me, me, me]), True)

    def test_a_ring_alone_is_no_chain(self):
        hub = ring_hub()
        hub.drop("ann", LEFT)
        for first in ("ann", None, LEFT, RIGHT):
            self.assertIs(is_chain(hub, LEFT, [first, LEFT, RIGHT, LEFT]), False)

    def test_other_values(self):
        hub = hub_of(("job", 1))
        for value in (None, 1, "ann", JOB, ("ann", JOB), [], ["ann"], [JOB], [JOB, JOB], ["ann", [JOB]], {"ann": JOB},
                      ["ann", JOB, "ann"], ["ann", "ann", JOB], ["ann", None, JOB], {"ann", JOB}, object(), Contrary(),
                      [None], [None, None], [["ann"], JOB], [Contrary(), JOB], ["ann", Contrary()], deep_tuple()):
            self.assertIs(is_chain(hub, JOB, value), False)

    def test_other_keys(self):
        hub = hub_of(("job", 1))
        for value in NO_KEYS:
            self.assertIs(is_chain(hub, value, ["ann", value]), False)
            self.assertIs(is_chain(hub, value, ["ann", JOB]), False)
            self.assertIs(is_chain(hub, JOB, ["ann", value]), False)
            self.assertIs(is_chain(hub, JOB, ["ann", value, JOB]), False)
            self.assertIs(is_chain(hub, value, value), False)

    def test_the_value_is_not_changed(self):
        hub = hub_of(("job", 1))
        value = ["ann", JOB]
        is_chain(hub, JOB, value)
        self.assertEqual(value, ["ann", JOB])


class IsCutTest(HubCase):
    def test_the_empty_list(self):
        self.assertIs(is_cut(Hub(PROGRAM), []), True)
        self.assertIs(is_cut(ring_hub(), []), True)

    def test_a_task_that_a_user_holds(self):
        hub = hub_of(("job", 1))
        self.assertIs(is_cut(hub, [JOB]), False)
        hub.drop("ann", JOB)
        self.assertIs(is_cut(hub, [JOB]), True)

    def test_a_task_that_must_finish(self):
        hub = hub_of(("duty", 1))
        hub.drop("ann", DUTY)
        self.assertIs(is_cut(hub, [DUTY]), True)
        hub.ask("ann", "duty", 1)
        hub.tick()
        hub.drop("ann", DUTY)
        self.assertIs(is_cut(hub, [DUTY]), False)

    def test_a_task_that_another_one_holds(self):
        hub = hub_of(("boss", 1))
        hub.tick()
        self.assertIs(is_cut(hub, [JOB]), False)
        hub.drop("ann", BOSS)
        self.assertIs(is_cut(hub, [JOB]), False)
        self.assertIs(is_cut(hub, [BOSS]), True)
        self.assertIs(is_cut(hub, [JOB, BOSS]), True)
        self.assertIs(is_cut(hub, [BOSS, JOB]), True)

    def test_a_ring(self):
        hub = ring_hub()
        self.assertIs(is_cut(hub, [LEFT, RIGHT]), False)
        hub.drop("ann", LEFT)
        self.assertIs(is_cut(hub, [LEFT, RIGHT]), True)
        self.assertIs(is_cut(hub, [LEFT]), False)
        self.assertIs(is_cut(hub, [RIGHT]), False)
        self.assertIs(is_cut(hub, [LEFT, RIGHT, ("job", (0,))]), True)
        self.assertIs(is_cut(hub, [LEFT, ("job", (0,))]), False)

    def test_one_of_several_is_wanted(self):
        hub = hub_of(("job", 1), ("job", 2), ("job", 7))
        hub.drop("ann", JOB)
        hub.drop("ann", OTHER)
        self.assertIs(is_cut(hub, [OTHER, JOB]), True)
        for value in ([JOB, ("job", (7,))], [("job", (7,)), JOB]):
            self.assertIs(is_cut(hub, value), False)

    def test_tasks_that_are_over(self):
        hub = hub_of(("job", 1))
        hub.run(10)
        hub.drop("ann", JOB)
        self.assertIs(is_cut(hub, [JOB]), False)

    def test_what_a_failed_task_held(self):
        hub = hub_of()
        hub.ask("ann", "bad")
        hub.run(2)
        self.assertIs(is_cut(hub, [JOB]), True)

    def test_a_task_that_stands_there_twice(self):
        hub = hub_of(("job", 1), ("job", 2))
        hub.drop("ann", JOB)
        hub.drop("ann", OTHER)
        for value in ([JOB, JOB], [JOB, OTHER, JOB]):
            self.assertIs(is_cut(hub, value), False)

    def test_other_values(self):
        hub = hub_of(("job", 1))
        hub.drop("ann", JOB)
        for value in (None, 0, "", (), {}, (JOB,), {JOB: 1}, {JOB}, JOB, object(), Contrary(), deep_tuple()):
            self.assertIs(is_cut(hub, value), False)
        for value in NO_KEYS:
            self.assertIs(is_cut(hub, [value]), False)
            self.assertIs(is_cut(hub, [JOB, value]), False)

    def test_the_value_is_not_changed(self):
        hub = hub_of(("job", 1), ("job", 2))
        hub.drop("ann", JOB)
        hub.drop("ann", OTHER)
        value = [OTHER, JOB]
        is_cut(hub, value)
        self.assertEqual(value, [OTHER, JOB])


if __name__ == "__main__":
    unittest.main()
