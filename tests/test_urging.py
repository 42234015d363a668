"""Urgencies, and the chains and bounds that show them."""

import unittest

from observing import Contrary, HubCase, NO_INTEGERS, deep_tuple, seen
from test_wanting import BOSS, DUTY, JOB, LEFT, NO_KEYS, OTHER, PROGRAM, RIGHT, hub_of, ring_hub
from wantedwork.errors import UnknownTask
from wantedwork.hubs import Hub
from wantedwork.urging import are_bounds, urgency, urgency_chain
from wantedwork.wanting import is_chain

FIRST = ("job", (0,))


def boss_hub(*urgencies):
    """Return a hub on which ann holds a boss, bob its first job, cleo its second one, with these urgencies."""
    hub = Hub(PROGRAM)
    tasks = (("boss", 1), ("job", 1), ("job", 2))
    for user, task, degree in zip(("ann", "bob", "cleo"), tasks, urgencies):
        hub.ask(user, *task, urgency=degree)
    hub.pick(BOSS)
    hub.pick(BOSS)
    return hub


class UrgencyTest(HubCase):
    def urgencies(self, hub):
        return [urgency(hub, key) for key in hub.tasks]

    def test_the_urgency_of_a_handle(self):
        for degree in (0, 1, 9):
            hub = Hub(PROGRAM)
            hub.ask("ann", "job", 1, urgency=degree)
            self.assertEqual(urgency(hub, JOB), degree)

    def test_the_greatest_of_several_handles(self):
        hub = Hub(PROGRAM)
        for user, degree in (("ann", 3), ("bob", 7), ("cleo", 0)):
            hub.ask(user, "job", 1, urgency=degree)
        self.assertEqual((urgency(hub, JOB), urgency_chain(hub, JOB)), (7, ["bob", JOB]))
        hub.drop("bob", JOB)
        self.assertEqual((urgency(hub, JOB), urgency_chain(hub, JOB)), (3, ["ann", JOB]))

    def test_urgency_is_passed_on_to_held_tasks(self):
        self.assertEqual(self.urgencies(boss_hub(5, 0, 7)), [5, 5, 7])
        self.assertEqual(self.urgencies(boss_hub(0, 9, 1)), [0, 9, 1])

    def test_urgency_is_not_passed_back(self):
        hub = boss_hub(2, 8, 1)
        self.assertEqual((urgency(hub, BOSS), urgency_chain(hub, BOSS)), (2, ["ann", BOSS]))

    def test_urgency_along_a_row(self):
        hub = hub_of()
        hub.ask("ann", "row", 0, urgency=4)
        hub.run(998)
        hub.ask("bob", "row", 250, urgency=6)
        keys = [("row", (number,)) for number in range(500)]
        self.assertEqual(self.urgencies(hub), [4] * 250 + [6] * 250)
        self.assertEqual(urgency_chain(hub, keys[499]), ["bob", *keys[250:]])
        self.assertEqual(urgency_chain(hub, keys[249]), ["ann", *keys[:250]])
        self.assertIs(are_bounds(hub, {key: urgency(hub, key) for key in keys}), True)

    def test_urgency_in_a_ring(self):
        hub = ring_hub()
        self.assertEqual(self.urgencies(hub), [0, 0, 0])
        hub.ask("bob", "loop", 1, urgency=3)
        self.assertEqual(self.urgencies(hub), [3, 3, 3])
        self.assertEqual(urgency_chain(hub, FIRST), ["bob", RIGHT, LEFT, FIRST])
        hub.drop("ann", LEFT)
        hub.drop("bob", RIGHT)
        self.assertEqual(self.urgencies(hub), [-1, -1, -1])

    def test_a_handle_that_is_passed_on_keeps_its_urgency(self):
        hub = boss_hub(5, 0, 1)
        hub.ask("dan", "boss", 1, urgency=2)
        hub.pass_on("ann", "dan", BOSS)
        self.assertEqual((urgency(hub, BOSS), urgency_chain(hub, JOB)), (5, ["dan", BOSS, JOB]))
        hub.ask("ann", "boss", 1, urgency=8)
        hub.pass_on("dan", "ann", BOSS)
        self.assertEqual((urgency(hub, BOSS), urgency_chain(hub, BOSS)), (5, ["ann", BOSS]))

    def test_asking_again_changes_the_urgency(self):
        hub = boss_hub(5, 0, 1)
        hub.ask("ann", "boss", 1, urgency=3)
        self.assertEqual(self.urgencies(hub), [3, 3, 3])
        hub.ask("ann", "boss", 1)
        self.assertEqual(self.urgencies(hub), [0, 0, 1])
        hub.ask("cleo", "job", 2, urgency=9)
        self.assertEqual(self.urgencies(hub), [0, 0, 9])

    def test_tasks_that_no_user_reaches(self):
        hub = hub_of(("duty", 1), ("job", 2))
        hub.drop("ann", OTHER)
        hub.run(2)
        hub.drop("ann", DUTY)
        self.assertEqual([urgency(hub, key) for key in (OTHER, DUTY, JOB)], [-1, -1, -1])
        self.assertEqual([urgency_chain(hub, key) for key in (OTHER, DUTY, JOB)], [None, None, None])

    def test_a_must_with_a_user(self):
        hub = hub_of(("duty", 1))
        hub.run(2)
        self.assertEqual((urgency(hub, JOB), urgency_chain(hub, JOB)), (0, ["ann", DUTY, JOB]))

    def test_tasks_that_are_over(self):
        hub = Hub(PROGRAM)
        hub.ask("ann", "boss", 1, urgency=5)
        hub.tick()
        hub.ask("bob", "job", 1, urgency=7)
        hub.pick(JOB)
        hub.pick(JOB)
        self.assertEqual((hub.state(JOB), hub.holds(BOSS)), ("done", [JOB]))
        self.assertEqual((urgency(hub, JOB), urgency_chain(hub, JOB)), (-1, None))

    def test_a_failed_task_passes_nothing_on(self):
        hub = Hub(PROGRAM)
        bad = hub.ask("ann", "bad", urgency=5)
        hub.tick()
        self.assertEqual((urgency(hub, JOB), urgency_chain(hub, JOB)), (5, ["ann", bad, JOB]))
        hub.tick()
        self.assertEqual((hub.state(bad), urgency(hub, bad), urgency(hub, JOB)), ("failed", -1, -1))

    def test_the_policy_goes_by_this_urgency(self):
        hub = boss_hub(5, 0, 6)
        self.assertEqual(hub.tick("urgent"), OTHER)
        hub.ask("ann", "boss", 1, urgency=7)
        self.assertEqual([urgency(hub, key) for key in (JOB, OTHER)], [7, 7])
        self.assertEqual([hub.tick("urgent"), hub.tick("urgent")], [JOB, JOB])
        self.assertEqual((hub.state(JOB), urgency(hub, JOB), hub.tick("urgent")), ("done", -1, OTHER))

    def test_chains_are_chains(self):
        hub = boss_hub(5, 0, 1)
        for key in hub.tasks:
            self.assertIs(is_chain(hub, key, urgency_chain(hub, key)), True)

    def test_the_chain_is_new(self):
        hub = boss_hub(5, 0, 1)
        urgency_chain(hub, JOB).clear()
        self.assertEqual(urgency_chain(hub, JOB), ["ann", BOSS, JOB])

    def test_unknown_tasks(self):
        hub = hub_of(("job", 1))
        for function in (urgency, urgency_chain):
            for value in NO_KEYS:
                self.assert_raises(hub, UnknownTask, "key", value, function, hub, value)

    def test_arguments_by_name(self):
        hub = hub_of(("job", 1))
        self.assertEqual((urgency(key=JOB, hub=hub), urgency_chain(key=JOB, hub=hub)), (0, ["ann", JOB]))
        self.assertIs(are_bounds(value={JOB: 0}, hub=hub), True)

    def test_nothing_changes(self):
        hub = boss_hub(5, 0, 7)
        before = seen(hub)
        for key in hub.tasks:
            urgency(hub, key), urgency_chain(hub, key)
        are_bounds(hub, {key: 9 for key in hub.tasks})
        self.assertEqual(seen(hub), before)


class BoundsTest(HubCase):
    def test_no_tasks(self):
        hub = Hub(PROGRAM)
        self.assertIs(are_bounds(hub, {}), True)
        self.assertIs(are_bounds(hub, {JOB: 0}), False)

    def test_the_urgencies(self):
        self.assertIs(are_bounds(boss_hub(5, 0, 7), {BOSS: 5, JOB: 5, OTHER: 7}), True)
        self.assertIs(are_bounds(boss_hub(5, 0, 7), {OTHER: 7, JOB: 5, BOSS: 5}), True)

    def test_one_less(self):
        for value in ({BOSS: 4, JOB: 5, OTHER: 7}, {BOSS: 5, JOB: 4, OTHER: 7}, {BOSS: 5, JOB: 5, OTHER: 6},
                      {BOSS: 4, JOB: 4, OTHER: 7}):
            self.assertIs(are_bounds(boss_hub(5, 0, 7), value), False)

    def test_greater_ones(self):
        hub = boss_hub(5, 0, 7)
        for value in ({BOSS: 5, JOB: 9, OTHER: 9}, {BOSS: 6, JOB: 6, OTHER: 7}, {BOSS: 9, JOB: 9, OTHER: 9}):
            self.assertIs(are_bounds(hub, value), True)
        for value in ({BOSS: 6, JOB: 5, OTHER: 7}, {BOSS: 8, JOB: 8, OTHER: 7}, {BOSS: 9, JOB: 8, OTHER: 9}):
            self.assertIs(are_bounds(hub, value), False)

    def test_one_key_too_few_or_too_many(self):
        hub = boss_hub(5, 0, 7)
        for value in ({}, {BOSS: 5}, {BOSS: 5, JOB: 5}, {JOB: 5, OTHER: 7}, {BOSS: 5, JOB: 5, OTHER: 7, FIRST: 0},
                      {BOSS: 5, JOB: 5, FIRST: 7}, {BOSS: 5, JOB: 5, OTHER: 7, None: 0}):
            self.assertIs(are_bounds(hub, value), False)

    def test_keys_of_tasks_that_are_over(self):
        hub = boss_hub(5, 0, 7)
        hub.pick(JOB)
        hub.pick(JOB)
        self.assertEqual((hub.state(JOB), hub.holds(BOSS)), ("done", [JOB, OTHER]))
        self.assertIs(are_bounds(hub, {BOSS: 5, OTHER: 7}), True)
        self.assertIs(are_bounds(hub, {BOSS: 5, OTHER: 5}), False)
        for bound in (-1, 0, 5, 9):
            self.assertIs(are_bounds(hub, {BOSS: 5, JOB: bound, OTHER: 7}), False)

    def test_handles_of_tasks_that_are_over_do_not_count(self):
        hub = Hub(PROGRAM)
        hub.ask("ann", "job", 1, urgency=9)
        hub.run(10)
        hub.ask("ann", "job", 2, urgency=1)
        self.assertIs(are_bounds(hub, {OTHER: 1}), True)

    def test_paused_tasks_and_the_least_bound(self):
        hub = hub_of(("boss", 1))
        hub.tick()
        hub.drop("ann", BOSS)
        self.assertIs(are_bounds(hub, {BOSS: -1, JOB: -1}), True)
        self.assertIs(are_bounds(hub, {BOSS: -1, JOB: 0}), True)
        self.assertIs(are_bounds(hub, {BOSS: 0, JOB: -1}), False)
        for bound in (-2, -10):
            self.assertIs(are_bounds(hub, {BOSS: -1, JOB: bound}), False)
            self.assertIs(are_bounds(hub, {BOSS: bound, JOB: -1}), False)
        self.assertIs(are_bounds(hub, {JOB: -1}), False)

    def test_the_greatest_bound(self):
        hub = hub_of(("job", 1))
        for bound, right in ((-1, False), (0, True), (9, True), (10, False), (1000, False)):
            self.assertIs(are_bounds(hub, {JOB: bound}), right)

    def test_values_that_are_no_integers(self):
        for degree in (0, 1):
            hub = Hub(PROGRAM)
            hub.ask("ann", "job", 1, urgency=degree)
            self.assertIs(are_bounds(hub, {JOB: 1}), True)
            for value in NO_INTEGERS:
                self.assertIs(are_bounds(hub, {JOB: value}), False)

    def test_each_handle_counts(self):
        hub = Hub(PROGRAM)
        for user, degree in (("ann", 3), ("bob", 7), ("cleo", 0)):
            hub.ask(user, "job", 1, urgency=degree)
        self.assertEqual([bound for bound in range(-1, 10) if are_bounds(hub, {JOB: bound})], [7, 8, 9])

    def test_each_task_that_is_held_counts(self):
        hub = boss_hub(0, 0, 0)
        self.assertIs(are_bounds(hub, {BOSS: 1, JOB: 0, OTHER: 1}), False)
        self.assertIs(are_bounds(hub, {BOSS: 1, JOB: 1, OTHER: 0}), False)
        self.assertIs(are_bounds(hub, {BOSS: 1, JOB: 1, OTHER: 1}), True)

    def test_a_ring_has_equal_bounds(self):
        hub = ring_hub()
        self.assertIs(are_bounds(hub, {LEFT: 2, RIGHT: 2, FIRST: 3}), True)
        self.assertIs(are_bounds(hub, {LEFT: 2, RIGHT: 3, FIRST: 3}), False)
        self.assertIs(are_bounds(hub, {LEFT: 3, RIGHT: 2, FIRST: 3}), False)
        hub.drop("ann", LEFT)
        self.assertIs(are_bounds(hub, {LEFT: -1, RIGHT: -1, FIRST: -1}), True)

    def test_other_values(self):
        hub = hub_of(("job", 1))
        for value in (None, 0, "", [], [JOB], [(JOB, 0)], (JOB, 0), ((JOB, 0),), {JOB}, object(), Contrary(),
                      deep_tuple()):
            self.assertIs(are_bounds(hub, value), False)

    def test_other_keys(self):
        hub = hub_of(("job", 1))
        # The last two are nested too deep to be keys of a dict.
        for value in NO_KEYS[:-2]:
            try:
                bounds = {value: 0}
            except TypeError:
                continue
            self.assertIs(are_bounds(hub, bounds), False)
            self.assertIs(are_bounds(hub, {**bounds, JOB: 0}), False)

    def test_the_value_is_not_changed(self):
        hub = boss_hub(5, 0, 7)
        value = {OTHER: 7, BOSS: 5, JOB: 5}
        are_bounds(hub, value)
        self.assertEqual(list(value.items()), [(OTHER, 7), (BOSS, 5), (JOB, 5)])


if __name__ == "__main__":
    unittest.main()
