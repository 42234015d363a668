"""Crews: leases that workers get, finish and lose."""

import unittest
from random import Random

from observing import Contrary, HubCase, NO_INTEGERS, seen
from slow_crews import CrewPair
from wantedwork.crews import Crew
from wantedwork.errors import InvalidNumber, InvalidPolicy, LeaseLost, LimitExceeded
from wantedwork.hubs import Hub
from wantedwork.language import parse_program
from wantedwork.logs import replayed

PROGRAM = parse_program("""plan job n
  work 1
  work 1
  work 1
result n
must duty n
  work 1
  work 1
result n
plan boss n
  work 1
  call x job(n)
  wait 1 of x
result x
plan wide n
  call x job(n)
result n""")

NO_POLICIES = (None, 0, True, "", "old", "Oldest", "oldest ", ("oldest",), ["oldest"], {"oldest": 1}, Contrary(), b"oldest")


def job(number):
    return "job", (number,)


def hub_with(*numbers, patience=10):
    """Return a hub on which ann holds jobs."""
    hub = Hub(PROGRAM, patience=patience)
    for number in numbers:
        hub.ask("ann", "job", number)
    return hub


class CrewCase(HubCase):
    def assert_lost(self, crew, worker):
        """Check that a worker has no lease, which finish tells, and that the hub and the other leases stay."""
        before, leases = seen(crew.hub), crew.leases()
        with self.assertRaises(LeaseLost) as caught:
            crew.finish(worker)
        self.assertIs(type(caught.exception), LeaseLost)
        self.assertEqual(caught.exception.worker, worker)
        leases.pop(worker, None)
        self.assertEqual((seen(crew.hub), crew.leases()), (before, leases))

    def assert_refused(self, crew, error, field, value, deed, *values):
        """Check that a deed raises an error, and that neither the hub nor the leases change."""
        leases = crew.leases()
        self.assert_raises(crew.hub, error, field, value, deed, *values)
        self.assertEqual(crew.leases(), leases)


class MakingTest(CrewCase):
    def test_workers(self):
        hub = hub_with(1)
        for workers in (1, 2, 9, 10):
            self.assertEqual((len(Crew(hub, workers)), Crew(hub, workers).leases()), (workers, {}))
        for workers in (0, 11, -1, 10 ** 59) + NO_INTEGERS:
            self.assert_raises(hub, InvalidNumber, "value", workers, Crew, hub, workers)
            self.assert_raises(hub, InvalidNumber, "value", workers, Crew, hub, workers, time=0)

    def test_times(self):
        hub = hub_with(1)
        for time in (1, 2, 20, 999, 1000):
            self.assertEqual(len(Crew(hub, 3, time=time)), 3)
        for time in (0, 1001, -1, 10 ** 59) + NO_INTEGERS:
            self.assert_raises(hub, InvalidNumber, "value", time, Crew, hub, 3, time=time)

    def test_the_hub_is_this_one(self):
        hub = hub_with(1)
        crew = Crew(hub, 1)
        self.assertIs(crew.hub, hub)
        crew.begin(0)
        crew.finish(0)
        self.assertEqual((hub.steps(job(1)), hub.log[-1]), (1, ("pick", job(1))))
        with self.assertRaises(AttributeError):
            crew.hub = hub

    def test_arguments(self):
        hub = hub_with(1, 2)
        crew = Crew(workers=2, hub=hub, time=3)
        self.assertEqual(crew.begin(policy="newest", worker=1), job(2))
        self.assertEqual(crew.finish(worker=1), job(2))
        self.assertIsNone(crew.crash(worker=1))
        with self.assertRaises(TypeError):
            Crew(hub, 2, 3)

    def test_a_crew_is_equal_to_no_other_value(self):
        crew = Crew(hub_with(1), 2)
        for value in (None, 2, {}, crew.hub, Crew(crew.hub, 2)):
            self.assertIs(crew == value, False)
        self.assertIs(crew == crew, True)


class BeginTest(CrewCase):
    def test_each_worker_gets_another_task(self):
        hub = hub_with(1, 2, 3)
        crew = Crew(hub, 4)
        self.assertEqual([crew.begin(worker) for worker in range(4)], [job(1), job(2), job(3), None])
        self.assertEqual(list(crew.leases().items()), [(0, job(1)), (1, job(2)), (2, job(3))])

    def test_the_default_is_the_oldest(self):
        hub = hub_with(1, 2)
        self.assertEqual((Crew(hub, 1).begin(0), Crew(hub, 1).begin(0, "oldest")), (job(1), job(1)))

    def test_policies(self):
        hub = hub_with(1, 2)
        hub.ask("ann", "job", 3, urgency=4)
        hub.ask("ann", "job", 4, urgency=3)
        for key in hub.tasks[1:]:
            hub.pick(key)
        hub.pick(job(2))
        for policy, order in (("oldest", (1, 2, 3, 4)), ("newest", (4, 3, 2, 1)), ("urgent", (3, 4, 1, 2)),
                              ("fair", (1, 3, 4, 2))):
            crew = Crew(hub, 5)
            keys = [crew.begin(worker, policy) for worker in range(5)]
            self.assertEqual(keys, [job(number) for number in order] + [None], policy)

    def test_it_is_no_deed(self):
        hub = hub_with(1)
        before = seen(hub)
        crew = Crew(hub, 2)
        crew.begin(0)
        crew.begin(1)
        crew.crash(0)
        self.assertEqual(seen(hub), before)

    def test_begin_again(self):
        hub = hub_with(1, 2)
        crew = Crew(hub, 2)
        self.assertEqual((crew.begin(0), crew.begin(0), crew.leases()), (job(1), job(1), {0: job(1)}))
        self.assertEqual((crew.begin(1), crew.begin(1), crew.begin(0, "newest")), (job(2), job(2), job(1)))
        crew.crash(1)
        self.assertEqual((crew.begin(0, "newest"), crew.leases()), (job(2), {0: job(2)}))
        self.assertEqual((crew.begin(1), crew.leases()), (job(1), {0: job(2), 1: job(1)}))

    def test_begin_again_begins_a_new_time(self):
        hub = hub_with(1)
        crew = Crew(hub, 1, time=2)
        crew.begin(0)
        hub.tick()
        crew.begin(0)
        hub.tick()
        self.assertEqual((crew.leases(), crew.finish(0)), ({0: job(1)}, job(1)))

    def test_a_worker_that_had_a_lease_has_none_if_no_task_is_left(self):
        hub = hub_with(1, 2)
        crew = Crew(hub, 2)
        crew.begin(0)
        crew.begin(1)
        hub.drop("ann", job(1))
        self.assertEqual(crew.leases(), {0: job(1), 1: job(2)})
        self.assertIsNone(crew.begin(0))
        self.assertEqual(crew.leases(), {1: job(2)})
        hub.ask("ann", "job", 1)
        self.assert_lost(crew, 0)

    def test_only_wanted_tasks_that_can_go_on(self):
        hub = Hub(PROGRAM)
        hub.drop("ann", hub.ask("ann", "job", 5))
        hub.ask("ann", "boss", 1)
        hub.run(2)
        hub.ask("ann", "wide", 2)
        hub.pick(("wide", (2,)))
        hub.pick(("wide", (2,)))
        crew = Crew(hub, 3)
        self.assertEqual([hub.state(key) for key in hub.tasks], ["new", "waiting", "new", "done", "new"])
        self.assertEqual([crew.begin(0), crew.begin(1)], [job(1), None])

    def test_without_tasks(self):
        crew = Crew(Hub(PROGRAM), 2)
        self.assertEqual((crew.begin(0), crew.begin(1, "fair"), crew.leases()), (None, None, {}))

    def test_other_workers_and_policies(self):
        hub = hub_with(1, 2, 3)
        crew = Crew(hub, 3)
        crew.begin(0)
        for worker in (-1, 3, 10, 10 ** 59) + NO_INTEGERS:
            self.assert_refused(crew, InvalidNumber, "value", worker, crew.begin, worker)
            self.assert_refused(crew, InvalidNumber, "value", worker, crew.begin, worker, "no")
            self.assert_refused(crew, InvalidNumber, "value", worker, crew.finish, worker)
            self.assert_refused(crew, InvalidNumber, "value", worker, crew.crash, worker)
        for policy in NO_POLICIES:
            for worker in (0, 1):
                self.assert_refused(crew, InvalidPolicy, "value", policy, crew.begin, worker, policy)
        self.assertEqual(crew.finish(0), job(1))


class LeasesTest(CrewCase):
    def test_they_are_new_and_ascending(self):
        hub = hub_with(1, 2, 3)
        crew = Crew(hub, 3)
        for worker in (2, 0, 1):
            crew.begin(worker)
        self.assertEqual(list(crew.leases().items()), [(0, job(2)), (1, job(3)), (2, job(1))])
        crew.leases().clear()
        self.assertIsNot(crew.leases(), crew.leases())
        self.assertEqual(len(crew.leases()), 3)

    def test_looking_at_them_changes_nothing(self):
        hub = hub_with(1)
        crew = Crew(hub, 1, time=1)
        crew.begin(0)
        with hub.trial():
            hub.tick()
        self.assertEqual((crew.leases(), crew.leases(), crew.finish(0)), ({0: job(1)}, {0: job(1)}, job(1)))

    def test_several_crews(self):
        hub = hub_with(1, 2)
        one, other = Crew(hub, 2), Crew(hub, 3, time=2)
        self.assertEqual((one.begin(0), other.begin(0), other.begin(1), one.begin(1)), (job(1), job(1), job(2), job(2)))
        self.assertEqual((one.finish(0), other.finish(0)), (job(1), job(1)))
        self.assertEqual((one.leases(), other.leases(), hub.steps(job(1))), ({1: job(2)}, {}, 2))
        self.assert_lost(other, 1)
        self.assertEqual((one.finish(1), hub.log[2:]), (job(2), [("pick", job(1)), ("pick", job(1)), ("pick", job(2))]))


class FinishTest(CrewCase):
    def test_a_step_by_pick(self):
        hub = hub_with(1, 2)
        crew = Crew(hub, 2)
        crew.begin(0)
        crew.begin(1)
        self.assertEqual((crew.finish(1), hub.clock, hub.log[2:]), (job(2), 1, [("pick", job(2))]))
        self.assertEqual((crew.leases(), hub.steps(job(2)), hub.shares), ({0: job(1)}, 1, {"ann": (1, 1)}))
        self.assert_lost(crew, 1)
        self.assertEqual(crew.finish(0), job(1))

    def test_without_a_lease(self):
        crew = Crew(hub_with(1), 3)
        for worker in range(3):
            self.assert_lost(crew, worker)

    def test_all_steps_of_a_task(self):
        hub = hub_with(1)
        crew = Crew(hub, 2)
        while crew.begin(1, "fair") is not None:
            crew.finish(1)
        self.assertEqual((hub.state(job(1)), hub.result_of(job(1)), hub.clock), ("done", 1, 4))

    def test_a_task_that_others_went_on_with(self):
        hub = hub_with(1)
        crew = Crew(hub, 1)
        crew.begin(0)
        hub.tick()
        hub.pick(job(1))
        self.assertEqual((crew.finish(0), hub.steps(job(1))), (job(1), 3))

    def test_one_that_is_paused_for_a_while(self):
        hub = hub_with(1)
        crew = Crew(hub, 1)
        crew.begin(0)
        hub.drop("ann", job(1))
        hub.tick()
        self.assertEqual(crew.leases(), {0: job(1)})
        hub.ask("bob", "job", 1)
        self.assertEqual((crew.finish(0), hub.shares), (job(1), {"bob": (1, 1)}))

    def test_one_that_another_user_wants_by_now(self):
        hub = hub_with(1)
        crew = Crew(hub, 1)
        crew.begin(0)
        hub.pass_on("ann", "bob", job(1))
        self.assertEqual(crew.finish(0), job(1))

    def test_one_that_nobody_but_itself_wants(self):
        hub = Hub(PROGRAM)
        key = hub.ask("ann", "duty", 1)
        crew = Crew(hub, 2)
        crew.begin(0)
        crew.finish(0)
        crew.begin(0)
        hub.drop("ann", key)
        self.assertEqual((crew.finish(0), hub.shares), (key, {"ann": (1, 1), None: (1, 1)}))


class LostTest(CrewCase):
    def ticked(self, ticks, **more):
        """Return a crew with a lease for a task that was paused for so many ticks since."""
        hub = hub_with(1, 2, patience=1000)
        hub.tick("newest")
        crew = Crew(hub, 3, **more)
        crew.begin(1)
        hub.drop("ann", job(1))
        hub.drop("ann", job(2))
        for _ in range(ticks):
            hub.tick()
        hub.ask("ann", "job", 1)
        return crew

    def test_by_time(self):
        for time in (1, 2, 3, 5, 1000):
            for ticks in (0, time // 2, time - 1):
                crew = self.ticked(ticks, time=time)
                self.assertEqual((crew.leases(), crew.finish(1)), ({1: job(1)}, job(1)))
            for ticks in (time, time + 1):
                crew = self.ticked(ticks, time=time)
                self.assertEqual(crew.leases(), {})
                self.assert_lost(crew, 1)

    def test_by_the_usual_time(self):
        crew = self.ticked(19)
        self.assertEqual((crew.leases(), crew.finish(1)), ({1: job(1)}, job(1)))
        crew = self.ticked(20)
        self.assertEqual(crew.leases(), {})
        self.assert_lost(crew, 1)

    def test_ticks_without_a_step_count(self):
        hub = hub_with(1)
        crew = Crew(hub, 1, time=2)
        crew.begin(0)
        hub.drop("ann", job(1))
        hub.tick()
        self.assertEqual(crew.leases(), {0: job(1)})
        hub.tick()
        hub.ask("ann", "job", 1)
        self.assertEqual(crew.leases(), {})
        self.assert_lost(crew, 0)

    def test_the_steps_of_other_workers_count(self):
        hub = hub_with(1, 2, 3)
        crew = Crew(hub, 3, time=2)
        for worker in range(3):
            crew.begin(worker)
        crew.finish(2)
        self.assertEqual(crew.leases(), {0: job(1), 1: job(2)})
        crew.finish(0)
        self.assertEqual(crew.leases(), {})
        self.assert_lost(crew, 1)

    def test_by_time_another_worker_may_have_the_task(self):
        hub = hub_with(1)
        crew = Crew(hub, 2, time=1)
        crew.begin(0)
        self.assertIsNone(crew.begin(1))
        hub.tick()
        self.assertEqual((crew.begin(1), crew.leases()), (job(1), {1: job(1)}))
        self.assert_lost(crew, 0)
        self.assertEqual((crew.finish(1), hub.steps(job(1))), (job(1), 2))

    def test_by_a_crash(self):
        hub = hub_with(1)
        crew = Crew(hub, 2)
        self.assertIsNone(crew.crash(0))
        crew.begin(0)
        self.assertIsNone(crew.crash(1))
        self.assertEqual(crew.leases(), {0: job(1)})
        self.assertIsNone(crew.crash(0))
        self.assertEqual((crew.leases(), hub.clock), ({}, 0))
        self.assert_lost(crew, 0)
        self.assertEqual((crew.begin(1), crew.begin(0)), (job(1), None))

    def forgotten(self):
        """Return a crew with a lease for a task that is forgotten since."""
        hub = hub_with(1, patience=0)
        crew = Crew(hub, 2)
        crew.begin(0)
        hub.drop("ann", job(1))
        hub.tick()
        self.assertEqual(hub.tasks, [])
        return crew

    def test_by_a_task_that_is_forgotten(self):
        crew = self.forgotten()
        self.assertEqual(crew.leases(), {})
        self.assert_lost(crew, 0)

    def test_by_a_task_that_is_forgotten_even_if_there_is_a_new_one(self):
        for look in (False, True):
            crew = self.forgotten()
            crew.hub.ask("ann", "job", 1)
            if look:
                self.assertEqual(crew.leases(), {})
            self.assert_lost(crew, 0)
            self.assertEqual((crew.begin(1), crew.finish(1)), (job(1), job(1)))

    def test_a_new_task_with_the_key_of_a_forgotten_one_can_be_leased(self):
        crew = self.forgotten()
        crew.hub.ask("ann", "job", 1)
        self.assertEqual((crew.begin(1), crew.leases()), (job(1), {1: job(1)}))
        self.assert_lost(crew, 0)
        self.assertEqual((crew.begin(0), crew.leases()), (None, {1: job(1)}))

    def test_by_a_task_that_is_paused_at_the_time_of_finishing(self):
        hub = hub_with(1, 2)
        crew = Crew(hub, 1)
        crew.begin(0)
        hub.drop("ann", job(1))
        self.assertEqual(crew.leases(), {0: job(1)})
        self.assert_lost(crew, 0)
        # It has no lease any more, whatever becomes of the task.
        hub.ask("ann", "job", 1)
        self.assertEqual(crew.leases(), {})
        self.assert_lost(crew, 0)

    def test_by_a_task_that_is_waiting_at_the_time_of_finishing(self):
        hub = Hub(PROGRAM)
        boss = hub.ask("ann", "boss", 1)
        crew = Crew(hub, 1)
        crew.begin(0)
        hub.run(2)
        self.assertEqual((hub.state(boss), crew.leases()), ("waiting", {0: boss}))
        self.assert_lost(crew, 0)
        hub.run(4)
        self.assertEqual((hub.state(boss), crew.leases()), ("ready", {}))
        self.assert_lost(crew, 0)

    def test_one_that_waits_only_in_between(self):
        hub = Hub(PROGRAM)
        boss = hub.ask("ann", "boss", 1)
        crew = Crew(hub, 1)
        crew.begin(0)
        hub.run(2 + 4)
        self.assertEqual((crew.finish(0), hub.steps(boss)), (boss, 3))

    def test_by_a_task_that_is_over_at_the_time_of_finishing(self):
        hub = hub_with(1)
        crew = Crew(hub, 1)
        crew.begin(0)
        hub.run(4)
        self.assertEqual((hub.state(job(1)), crew.leases()), ("done", {0: job(1)}))
        self.assert_lost(crew, 0)
        self.assertEqual(crew.leases(), {})


class LimitTest(CrewCase):
    def test_the_lease_stays(self):
        hub = Hub(PROGRAM)
        for number in range(499):
            hub.ask("ann", "job", number)
        wide = hub.ask("ann", "wide", 1000)
        crew = Crew(hub, 2)
        self.assertEqual(crew.begin(1, "newest"), wide)
        before = seen(hub)
        for _ in range(2):
            with self.assertRaises(LimitExceeded) as caught:
                crew.finish(1)
            self.assertEqual((caught.exception.limit, crew.leases(), seen(hub)), (500, {1: wide}, before))
        self.assertEqual((crew.leases(), len(hub), hub.clock), ({1: wide}, 500, 0))
        hub.drop("ann", job(3))
        for _ in range(11):
            hub.tick()
        self.assertEqual((len(hub), crew.finish(1), len(hub), crew.leases()), (499, wide, 500, {}))


class TrialTest(CrewCase):
    def test_a_lease_ahead_of_a_trial_and_behind_it(self):
        hub = hub_with(1, 2, patience=1)
        crew = Crew(hub, 2, time=5)
        hub.tick("newest")
        crew.begin(0)
        hub.tick("newest")
        with hub.trial():
            hub.drop("ann", job(1))
            for _ in range(9):
                hub.tick()
            self.assertNotIn(job(1), hub)
            hub.ask("bob", "job", 1)
            hub.ask("bob", "job", 7)
        self.assertEqual((crew.leases(), crew.begin(1), crew.finish(0)), ({0: job(1)}, job(2), job(1)))
        self.assertEqual((hub.log[-1], hub.shares), (("pick", job(1)), {"ann": (3, 1)}))

    def test_its_time_goes_on_behind_a_trial(self):
        for within in (0, 1, 2, 50):
            hub = hub_with(1, 2)
            crew = Crew(hub, 1, time=3)
            crew.begin(0)
            hub.pick(job(2))
            with hub.trial():
                for _ in range(within):
                    hub.tick()
            hub.pick(job(2))
            self.assertEqual(crew.leases(), {0: job(1)})
            with hub.trial():
                for _ in range(within):
                    hub.tick()
            hub.pick(job(2))
            self.assertEqual(crew.leases(), {})
            self.assert_lost(crew, 0)

    def test_a_lost_one_is_lost_behind_a_trial(self):
        hub = hub_with(1, patience=0)
        crew = Crew(hub, 1)
        crew.begin(0)
        hub.drop("ann", job(1))
        hub.tick()
        with hub.trial():
            hub.ask("ann", "job", 1)
        self.assertEqual(crew.leases(), {})
        self.assert_lost(crew, 0)

    def test_also_if_an_error_is_raised(self):
        hub = hub_with(1)
        crew = Crew(hub, 1, time=1)
        crew.begin(0)
        with self.assertRaises(InvalidNumber):
            with hub.trial():
                hub.run(3)
                hub.run(-1)
        self.assertEqual((crew.leases(), crew.finish(0)), ({0: job(1)}, job(1)))


class DrawnTest(unittest.TestCase):
    def test_beside_slow_crews(self):
        counts = {}
        for seed in range(250):
            pair = CrewPair(self, seed)
            for _ in range(pair.random.randint(10, 90)):
                pair.turn()
                self.assertEqual(seen(pair.hub), pair.model.seen(), seed)
                for crew, slow in pair.crews:
                    self.assertEqual(list(crew.leases().items()), slow.leases(), seed)
            self.assertIs(replayed(pair.program, pair.hub.log, patience=pair.hub.patience) == pair.hub, True)
            for name in pair.counts:
                counts[name] = counts.get(name, 0) + pair.counts[name]
        for name in ("none", "time", "forgotten", "anew", "paused", "cannot", "finished", "no task", "again"):
            self.assertGreater(counts.get(name, 0), 3, (name, counts))

    def test_a_crew_comes_to_the_same_results(self):
        random = Random(1)
        hub = Hub(PROGRAM)
        for number in range(9):
            hub.ask("ann", "boss", number)
        crew = Crew(hub, 5, time=4)
        while any(hub.state(("boss", (number,))) != "done" for number in range(9)):
            worker = random.randrange(5)
            kind = random.choice(("begin", "begin", "finish", "crash"))
            if kind == "finish" and worker in crew.leases():
                try:
                    crew.finish(worker)
                except LeaseLost:
                    self.assertNotIn(worker, crew.leases())
            elif kind == "begin" and crew.begin(worker, random.choice(Hub.POLICIES)) is None:
                hub.tick()
            elif kind == "crash":
                crew.crash(worker)
        self.assertEqual([hub.result_of(("boss", (number,))) for number in range(9)], list(range(9)))


if __name__ == "__main__":
    unittest.main()
