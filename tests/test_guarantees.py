"""The guarantees of point 3 over the whole program: on drawn hubs, with users, policies, crews, pauses and trials."""

import unittest
from fractions import Fraction
from random import Random

from generating import random_program
from observing import seen
from wantedwork.accounts import account, is_account, shares_of
from wantedwork.console import Console
from wantedwork.crews import Crew
from wantedwork.directly import outcome_of
from wantedwork.errors import LeaseLost, LimitExceeded
from wantedwork.hubs import Hub
from wantedwork.language import format_program, parse_program
from wantedwork.logs import journal, recovered, rehearsed, replayed
from wantedwork.stopping import is_stuck_set, stuck
from wantedwork.urging import are_bounds, urgency, urgency_chain
from wantedwork.wanting import chain, is_chain, is_cut, paused, wanted

USERS = ("ann", "bob", "cleo")
OVER = ("done", "failed")


class Walk:
    """Drawn deeds on a hub, some of them by crews and some within trials; each tick is looked at."""

    def __init__(self, case, seed, **more):
        self.case, self.random = case, Random(seed)
        self.program = random_program(self.random, self.random.randint(2, 5), 14, **more)
        self.hub = Hub(self.program, patience=self.random.choice((0, 1, 2, 10)))
        self.crews = [Crew(self.hub, self.random.randint(1, 4), time=self.random.choice((1, 3, 20))) for _ in range(2)]
        self.finished = []

    def go(self, turns):
        for _ in range(turns):
            kind = self.random.choice(["ask"] * 3 + ["drop", "pass_on", "finish", "finish", "crash", "trial"] + ["tick"] * 8
                                      + ["begin"] * 3)
            getattr(self, kind)()

    def ask(self):
        plan = self.random.choice(self.program.names)
        numbers = [self.random.randint(0, 2) for _ in self.program[plan].arguments]
        self.hub.ask(self.random.choice(USERS), plan, *numbers, urgency=self.random.randint(0, 9))

    def handle(self):
        handles = [(user, key) for user in self.hub.users for key in self.hub.handles(user)]
        return self.random.choice(handles) if handles else None

    def drop(self):
        handle = self.handle()
        if handle is not None:
            self.hub.drop(*handle)

    def pass_on(self):
        handle = self.handle()
        if handle is not None:
            self.hub.pass_on(handle[0], self.random.choice(USERS), handle[1])

    def worker(self):
        crew = self.random.choice(self.crews)
        return crew, self.random.randrange(len(crew))

    def begin(self):
        crew, worker = self.worker()
        leased = [key for other, key in crew.leases().items() if other != worker]
        policy = self.random.choice(Hub.POLICIES)
        expected = self.expected(policy, [key for key in self.able() if key not in leased])
        before = seen(self.hub)
        self.case.assertEqual(crew.begin(worker, policy), expected)
        self.case.assertEqual(seen(self.hub), before)

    def finish(self):
        crew, worker = self.worker()
        expected = crew.leases().get(worker)
        if expected not in self.able():
            with self.case.assertRaises(LeaseLost):
                crew.finish(worker)
            return
        if self.turn(lambda: crew.finish(worker), expected):
            self.finished.append(expected)

    def crash(self):
        crew, worker = self.worker()
        crew.crash(worker)

    def trial(self):
        before, leases = seen(self.hub), [crew.leases() for crew in self.crews]
        with self.hub.trial():
            for _ in range(self.random.randint(0, 5)):
                self.ask()
                self.drop()
                self.tick()
        self.case.assertEqual((seen(self.hub), [crew.leases() for crew in self.crews]), (before, leases))

    def able(self):
        return [key for key in wanted(self.hub) if self.hub.state(key) in ("new", "ready")]

    def expected(self, policy, able):
        """Return the task that a policy selects."""
        if not able:
            return None
        at = range(len(able))
        if policy == "newest":
            return able[-1]
        if policy == "urgent":
            return able[max(at, key=lambda place: (urgency(self.hub, able[place]), -place))]
        if policy == "fair":
            return able[min(at, key=lambda place: (self.hub.steps(able[place]), place))]
        return able[0]

    def tick(self):
        policy = self.random.choice(Hub.POLICIES)
        self.turn(lambda: self.hub.tick(policy), self.expected(policy, self.able()))

    def turn(self, deed, expected):
        """Make a tick and look at what it does; return whether there was room for it."""
        hub, before = self.hub, {key: self.task(key) for key in self.hub.tasks}
        effects, cost = hub.effects, hub.cost
        try:
            self.case.assertEqual(deed(), expected)
        except LimitExceeded:
            return False
        rests = {key: before[key]["rest"] + 1 if key in before else 1 for key in self.paused_with(before)}
        for key in list(before):
            self.check_task(key, before[key], expected, rests)
        for key in hub.tasks:
            self.case.assertEqual(hub.rest(key), rests.get(key, 0))
            self.case.assertTrue(all(held in hub for held in hub.holds(key)))
        self.check_told(expected, effects, cost)
        return True

    def task(self, key):
        return {"steps": self.hub.steps(key), "rest": self.hub.rest(key), "state": self.hub.state(key), "work": self.hub.work_of(key)}

    def paused_with(self, before):
        """Return the tasks that are paused at the end of a tick, those that it forgets among them."""
        return paused(self.hub) + [key for key in before if key not in self.hub]

    def check_task(self, key, before, stepped, rests):
        """Check that a task made a step, stayed as it was, or is forgotten because of its rest."""
        if key not in self.hub:
            self.case.assertGreater(rests[key], self.hub.patience)
            self.case.assertNotIn(before["state"], OVER)
            return
        self.case.assertLessEqual(rests.get(key, 0), self.hub.patience)
        now = self.task(key)
        self.case.assertEqual(now["steps"] - before["steps"], int(key == stepped))
        if key != stepped:
            self.case.assertEqual(now["work"], before["work"])
            self.case.assertTrue(before["state"] == now["state"] or (before["state"], now["state"]) == ("waiting", "ready"))

    def check_told(self, stepped, effects, cost):
        """Check what a tick has told and charged."""
        hub = self.hub
        new = hub.effects[len(effects):]
        self.case.assertEqual(hub.effects[:len(effects)], effects)
        if new:
            self.case.assertEqual((hub.state(stepped), {key for key, _ in new}), ("done", {stepped}))
        self.case.assertTrue(stepped is not None or hub.cost == cost)
        self.case.assertEqual(sum(Fraction(*share) for share in hub.shares.values()), hub.cost)


class GuaranteesTest(unittest.TestCase):
    def walks(self, many, turns, **more):
        for seed in range(many):
            walk = Walk(self, seed, **more)
            walk.go(walk.random.randint(5, turns))
            yield walk

    def test_steps_pauses_effects_and_costs(self):
        states, forgotten, finished = {}, 0, 0
        for walk in self.walks(250, 90):
            for key in walk.hub.tasks:
                states[walk.hub.state(key)] = True
            forgotten += walk.hub.clock > 0 and any(len(rehearsed(walk.hub, [("tick", "fair")] * many)) < len(walk.hub) for many in (1, 12))
            finished += len(walk.finished)
        self.assertEqual(sorted(states), ["done", "failed", "new", "ready", "waiting"])
        self.assertTrue(forgotten > 20 and finished > 100, (forgotten, finished))

    def test_what_is_told_can_be_shown(self):
        for walk in self.walks(120, 60):
            hub = walk.hub
            unfinished = [key for key in hub.tasks if hub.state(key) not in OVER]
            self.assertEqual(sorted(wanted(hub) + paused(hub)), sorted(unfinished))
            self.assertIs(is_cut(hub, paused(hub)), True)
            self.assertIs(are_bounds(hub, {key: urgency(hub, key) for key in unfinished}), True)
            self.assertTrue(not stuck(hub) or is_stuck_set(hub, stuck(hub)))
            self.assertTrue(set(stuck(hub)) <= set(wanted(hub)))
            for key in wanted(hub):
                self.assertIs(is_chain(hub, key, chain(hub, key)), True)
                if urgency(hub, key) >= 0:
                    self.assertIs(is_chain(hub, key, urgency_chain(hub, key)), True)

    def test_results_do_not_depend_on_how_they_came(self):
        told = 0
        for walk in self.walks(200, 120, determinate=True):
            for key in walk.hub.tasks:
                if walk.hub.state(key) in OVER:
                    outcome = outcome_of(walk.program, key[0], *key[1])
                    result, reason = walk.hub.result_of(key), walk.hub.reason_of(key)
                    self.assertIn(outcome, (None, ("done", result) if reason is None else ("failed", reason)))
                    told += outcome is not None
        self.assertGreater(told, 200)

    def test_steps_of_crews_are_steps_of_a_log(self):
        for walk in self.walks(150, 90):
            hub = walk.hub
            self.assertEqual([deed[1] for deed in hub.log if deed[0] == "pick"], walk.finished)
            again = replayed(walk.program, hub.log, patience=hub.patience)
            self.assertEqual((again == hub, seen(again)), (True, seen(hub)))

    def test_all_that_leads_to_the_same_hub(self):
        for walk in self.walks(150, 70):
            hub, console = walk.hub, Console(walk.program, patience=walk.hub.patience)
            lines = [line.split(" ", 1)[1].rsplit(" ", 1)[0] for line in journal(hub).split("\n")[:-1]]
            for line in lines:
                console.execute(line)
            others = [hub.copy(), recovered(walk.program, journal(hub), patience=hub.patience)[0], console.hub_copy(),
                      rehearsed(Hub(walk.program, patience=hub.patience), hub.log),
                      replayed(parse_program(format_program(walk.program)), hub.log, patience=hub.patience)]
            for other in others:
                self.assertEqual((other == hub, hub == other, seen(other)), (True, True, seen(hub)))
            told = account(hub)
            self.assertIs(is_account(told, hub.patience), True)
            self.assertEqual(list(shares_of(told, hub.patience).items()), list(hub.shares.items()))


class KeysTest(unittest.TestCase):
    def test_keys_with_no_number_up_to_three(self):
        program = parse_program("plan p\n  call x q(4)\n  wait 1 of x\nresult x\nplan q a\n  call x r(a, 5)\n  wait 1 of x\nresult x\n"
                                "plan r a b\n  call x s(a, b, 1000000006)\n  wait 1 of x\nresult x\n"
                                "plan s a b c\n  work 6\n  say hi\nresult a + b + c")
        keys = [("p", ()), ("q", (4,)), ("r", (4, 5)), ("s", (4, 5, 1000000006))]
        texts = ["p()", "q(4)", "r(4,5)", "s(4,5,1000000006)"]
        hub, console = Hub(program), Console(program)
        crew = Crew(hub, 4)
        for key, text in zip(keys, texts):
            self.assertEqual((hub.ask("ann", key[0], *key[1]), console.execute(f"ask ann 0 {text}")), (key, text))
        self.assertEqual([crew.begin(worker) for worker in range(4)], keys)
        self.assertEqual(crew.leases(), dict(enumerate(keys)))
        for worker, (key, text) in enumerate(zip(keys, texts)):
            self.assertEqual((crew.finish(worker), console.execute(f"pick {text}")), (key, text))
        for key, text in zip(keys[1:], texts[1:]):
            hub.pass_on("ann", "bob", key)
            hub.drop("bob", key)
            self.assertEqual([console.execute(f"pass ann bob {text}"), console.execute(f"drop bob {text}")], ["ok", "ok"])
        self.assertEqual((chain(hub, keys[3]), console.execute(f"why {texts[3]}")), (["ann", *keys], " ".join(["ann", *texts])))
        self.assertEqual((wanted(hub), console.execute("wanted")), (keys, " ".join(texts)))
        self.assertEqual(hub.run(99), int(console.execute("run 99 oldest")))
        self.assertEqual((hub.effects, console.execute("effects")), ([(keys[3], "hi")], f"{texts[3]}:hi"))
        self.assertEqual((hub.result_of(keys[0]), console.execute("result p()")), (8, "8"))
        self.assertIs(console.hub_copy() == hub, True)
        self.assertEqual(recovered(program, journal(hub)), (hub, len(hub.log)))
        self.assertEqual([line.split(" ")[-2] for line in journal(hub).split("\n")[:8]], texts + texts)
        told = account(hub)
        self.assertEqual(told[:4], [("ask", "ann", key, 0) for key in keys])
        self.assertEqual([item[1:3] for item in told[4:8]], [(key, (held,)) for key, held in zip(keys, keys[1:])] + [(keys[3], ())])
        self.assertEqual((is_account(told, 10), shares_of(told, 10)), (True, {"ann": (6, 1)}))


class NewValuesTest(unittest.TestCase):
    def test_returned_lists_and_dicts_are_new(self):
        program = parse_program("plan job\n  work 3\n  say hi\nresult 1\nplan boss\n  call x job()\n  wait 1 of x\nresult x")
        hub = Hub(program)
        hub.ask("ann", "boss")
        hub.run(2)
        key, crew = ("boss", ()), Crew(hub, 2)
        crew.begin(0)
        told = account(hub)
        makers = (lambda: hub.tasks, lambda: hub.users, lambda: hub.effects, lambda: hub.log, lambda: hub.shares,
                  lambda: hub.handles("ann"), lambda: hub.holds(key), lambda: wanted(hub), lambda: chain(hub, key), crew.leases,
                  lambda: account(hub), lambda: shares_of(told, 10), lambda: program.names)
        before = [maker() for maker in makers]
        for maker, value in zip(makers, before):
            self.assertIsNot(maker(), maker())
            copied = list(value)
            value.clear()
            self.assertEqual(list(maker()), copied)


if __name__ == "__main__":
    unittest.main()
