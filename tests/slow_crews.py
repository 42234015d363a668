"""A slow crew, written straight from point 15, on the slow hub; leases hold the slow hub's tasks themselves."""

from model import NoRoom
from pairs import Pair
from wantedwork.crews import Crew
from wantedwork.errors import LeaseLost, LimitExceeded
from wantedwork.hubs import Hub


class Lost(Exception):
    """A lease is lost, or there is none; what was the cause is told."""


class SlowCrew:
    def __init__(self, model, workers, time):
        self.model, self.workers, self.time = model, workers, time
        # Triples (worker, task, the clock when it began).
        self.held = []

    def lease(self, worker):
        """Return the task of a worker's lease; raise Lost if it is lost for a cause that is not that of finishing."""
        for other, task, since in self.held:
            if other == worker:
                if self.model.clock >= since + self.time:
                    raise Lost("time")
                if not any(there is task for there in self.model.tasks):
                    raise Lost("anew" if self.model.find(task.key) else "forgotten")
                return task
        raise Lost("none")

    def leases(self):
        found = []
        for worker in range(self.workers):
            try:
                found.append((worker, self.lease(worker).key))
            except Lost:
                pass
        return found

    def crash(self, worker):
        self.held = [lease for lease in self.held if lease[0] != worker]

    def begin(self, worker, policy):
        self.crash(worker)
        leased = [key for _, key in self.leases()]
        able = [task for task in self.model.able() if task.key not in leased]
        chosen = self.model.select_among(able, policy)
        if chosen is None:
            return None
        self.held.append((worker, chosen, self.model.clock))
        return chosen.key

    def finish(self, worker):
        try:
            task = self.lease(worker)
            if task not in self.model.able():
                raise Lost("paused" if task not in self.model.wanted() else "cannot")
        except Lost:
            self.crash(worker)
            raise
        self.model.pick(task.key)
        self.crash(worker)
        return task.key


class CrewPair(Pair):
    """A hub and a slow hub with crews on both, on which the same is done."""

    def __init__(self, case, seed):
        Pair.__init__(self, case, seed)
        self.crews, self.counts = [], {}
        for _ in range(self.random.choice((1, 1, 2, 3))):
            workers, time = self.random.randint(1, 4), self.random.choice((1, 2, 3, 5, 20))
            self.crews.append((Crew(self.hub, workers, time=time), SlowCrew(self.model, workers, time)))

    def count(self, name):
        self.counts[name] = self.counts.get(name, 0) + 1

    def turn(self):
        """Do a deed, or something with a worker."""
        crew, slow = self.random.choice(self.crews)
        worker = self.random.randrange(slow.workers)
        kind = self.random.choice(["deed"] * 6 + ["begin"] * 6 + ["finish"] * 4 + ["crash", "leave"])
        if kind == "deed":
            self.deed()
        elif kind == "leave":
            self.leave()
            self.finish(crew, slow, worker)
        elif kind == "begin":
            self.begin(crew, slow, worker)
        elif kind == "finish":
            self.finish(crew, slow, worker)
        else:
            crew.crash(worker)
            slow.crash(worker)

    def leave(self):
        """Let all users drop their tasks, and some come back for them later."""
        asked = [(user, key) for user in self.hub.users for key in self.hub.handles(user)]
        for user, key in asked:
            self.hub.drop(user, key)
            self.model.drop(user, key)
        for _ in range(self.random.randint(0, self.hub.patience + 1)):
            self.tick("oldest")
        for user, key in asked[:self.random.randint(0, len(asked))]:
            self.hub.ask(user, key[0], *key[1])
            self.model.ask(user, key[0], *key[1])

    def begin(self, crew, slow, worker):
        policy = self.random.choice(Hub.POLICIES)
        again = worker in crew.leases()
        expected = slow.begin(worker, policy)
        self.case.assertEqual(crew.begin(worker, policy), expected)
        self.count("no task" if expected is None else "again" if again else "begun")

    def finish(self, crew, slow, worker):
        try:
            expected = slow.finish(worker)
        except Lost as lost:
            self.count(lost.args[0])
            with self.case.assertRaises(LeaseLost) as caught:
                crew.finish(worker)
            self.case.assertEqual(caught.exception.worker, worker)
            return
        except NoRoom:
            with self.case.assertRaises(LimitExceeded):
                crew.finish(worker)
            return
        self.count("finished")
        self.case.assertEqual(crew.finish(worker), expected)
