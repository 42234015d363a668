"""Crews: workers that make the steps of a hub, and may crash."""

from wantedwork.errors import InvalidNumber, LeaseLost
from wantedwork.hubs import check_policy
from wantedwork.surveys import selected, surveyed
from wantedwork.words import is_integer

MOST_WORKERS = 10
LONGEST_TIME = 1000


class Lease:
    """The task that a worker is to make a step of, and the tick behind which it began."""

    def __init__(self, task, now):
        self.key = task.key
        # A task that is made anew with the same key has another number.
        self.number = task.number
        self.since = now


class Crew:
    """Workers, each of which may have a lease for a task of a hub."""

    def __init__(self, hub, workers, *, time=20):
        if not is_integer(workers, 1, MOST_WORKERS):
            raise InvalidNumber(workers)
        if not is_integer(time, 1, LONGEST_TIME):
            raise InvalidNumber(time)
        self._hub = hub
        self._time = time
        # The last lease of each worker, or None; it may be lost by now.
        self._given = [None] * workers

    @property
    def hub(self):
        """The hub."""
        return self._hub

    def __len__(self):
        return len(self._given)

    def leases(self):
        """Return a dict from the workers with a lease that is not lost, ascending, to the keys."""
        return {worker: lease.key for worker, lease in enumerate(self._given) if self._lasts(lease)}

    def begin(self, worker, policy="oldest"):
        """Give a worker a lease for the task that a policy selects; return its key, or None."""
        self._check_worker(worker)
        check_policy(policy)
        self._given[worker] = None
        world = self._hub._world
        leased = {key: True for key in self.leases().values()}
        key = selected(world, policy, leased)
        if key is not None:
            self._given[worker] = Lease(world.by_key[key], world.now)
        return key

    def finish(self, worker):
        """Let the task of a worker's lease make a step; return its key."""
        self._check_worker(worker)
        lease = self._given[worker]
        if not self._lasts(lease) or lease.key not in surveyed(self._hub._world).able:
            self._given[worker] = None
            raise LeaseLost(worker)
        self._hub.pick(lease.key)
        self._given[worker] = None
        return lease.key

    def crash(self, worker):
        """Take a worker's lease away."""
        self._check_worker(worker)
        self._given[worker] = None

    def _check_worker(self, worker):
        if not is_integer(worker, 0, len(self._given) - 1):
            raise InvalidNumber(worker)

    def _lasts(self, lease):
        """Tell whether there is a lease, and neither its time is over nor its task forgotten."""
        world = self._hub._world
        if lease is None or world.now - lease.since >= self._time:
            return False
        return lease.key in world.by_key and world.by_key[lease.key].number == lease.number
