"""What is told of wanted, urgent and stuck tasks of random hubs, beside slow readings of the document."""

import unittest

import readings
from observing import seen
from pairs import Pair, USERS
from wantedwork.hubs import Hub
from wantedwork.stopping import is_stuck_set, ring, stuck
from wantedwork.urging import are_bounds, urgency, urgency_chain
from wantedwork.wanting import chain, is_chain, is_cut, is_wanted, paused, users_of, wanted


class Changer:
    """Makes values that are a little different from right ones."""

    def __init__(self, pair):
        self.random, self.hub, self.model = pair.random, pair.hub, pair.model

    def key(self):
        """Return a key, or something like one."""
        key = self.random.choice(self.hub.tasks)
        if self.random.random() < 0.9:
            return key
        plan, arguments = key
        twins = (plan, tuple(number == 1 for number in arguments)), (plan, list(arguments)), [plan, arguments]
        return self.random.choice(twins + ((plan, arguments + (1,)), (plan, (5,) * len(arguments)), plan, None))

    def row(self, most=4):
        """Return a list of some keys."""
        return [self.key() for _ in range(self.random.randint(0, most))]

    def changed(self, row):
        """Return a list with a few changes."""
        row = list(row)
        for _ in range(self.random.randint(0, 2)):
            at = self.random.randint(0, len(row))
            kind = self.random.randint(0, 4)
            if kind == 0:
                row.insert(at, self.key())
            elif kind == 1:
                row = row[:at] + row[at + 1:]
            elif kind == 2 and at < len(row):
                row[at] = self.key()
            elif kind == 3 and at < len(row):
                row.append(row[at])
            elif kind == 4:
                row = row[at:] + row[:at]
        return row if self.random.random() < 0.97 else self.random.choice((tuple(row), {0: row}, None, row[:1]))

    def first(self):
        return self.random.choice(USERS + (None, None, "", 0, True))

    def walk(self):
        """Return a list of keys of which mostly each one holds the next one."""
        row = [self.key()]
        while self.random.random() < 0.7:
            held = self.hub.holds(row[-1]) if row[-1] in self.hub else []
            row.append(self.random.choice(held) if held else self.key())
        return row

    def bounds(self, right):
        """Return a dict like a right one."""
        value = {key: right[key] for key in self.random.sample(list(right), len(right))}
        for key in list(value):
            if self.random.random() < 0.2:
                value[key] += self.random.randint(0, 3)
            if self.random.random() < 0.03:
                value[key] = self.random.choice((-2, -1, 0, 9, 10, True, False, None, "1", value[key] - 1))
        if self.random.random() < 0.1:
            plan, arguments = self.random.choice(self.hub.tasks)
            twin = plan, tuple(bool(number) for number in arguments)
            value[self.random.choice((twin, (plan, arguments), (plan, (7,) * len(arguments)), plan, None, 1))] = 1
        if value and self.random.random() < 0.1:
            del value[self.random.choice(list(value))]
        return value


class ShowingTest(unittest.TestCase):
    def setUp(self):
        self.counts = {}

    def count(self, name, value=True):
        self.counts[name, value] = self.counts.get((name, value), 0) + 1

    def pairs(self, many, deeds):
        """Yield hubs behind random deeds."""
        for seed in range(many):
            pair = Pair(self, seed)
            for _ in range(pair.random.randint(5, deeds)):
                pair.deed()
            if len(pair.hub) > 0:
                yield pair

    def unfinished(self, hub):
        return [key for key in hub.tasks if hub.state(key) not in ("done", "failed")]

    def test_what_is_told(self):
        for pair in self.pairs(300, 60):
            hub, model, before = pair.hub, pair.model, seen(pair.hub)
            self.assertEqual(wanted(hub), readings.keys(readings.wanted(model)))
            self.assertEqual(paused(hub), readings.keys(readings.paused(model)))
            self.assertEqual(stuck(hub), readings.keys(readings.stuck(model)))
            for task in model.tasks:
                self.assertEqual(is_wanted(hub, task.key), task in readings.wanted(model))
                self.assertEqual(users_of(hub, task.key), readings.users_of(model, task))
                self.assertEqual(urgency(hub, task.key), -1 if task.over() else model.urgency(task))
            found = ring(hub)
            self.assertEqual(found is not None, readings.has_ring(model))
            self.assertTrue(found is None or readings.is_ring(model, found))
            self.count("stuck", len(stuck(hub)) > 0)
            self.count("ring", None if found is None else min(len(found), 3))
            self.count("paused", len(paused(hub)) > 0)
            self.assertEqual(seen(hub), before)
        self.check_counts(5, ("stuck", True), ("stuck", False), ("ring", 1), ("ring", 2), ("paused", True))
        self.assertGreater(self.counts["ring", None], self.counts["stuck", False])

    def check_counts(self, least, *names):
        """Check that what is tested occurred often enough."""
        for name in names:
            self.assertGreaterEqual(self.counts.get(name, 0), least, name)

    def test_what_is_shown_is_accepted(self):
        for pair in self.pairs(300, 60):
            hub, model = pair.hub, pair.model
            for key in hub.tasks:
                self.check_chains(hub, model, key)
            self.assertIs(is_cut(hub, paused(hub)), True)
            self.assertIs(are_bounds(hub, {key: urgency(hub, key) for key in self.unfinished(hub)}), True)
            if stuck(hub):
                self.assertIs(is_stuck_set(hub, stuck(hub)), True)
                self.count("stuck")
        self.check_counts(5, ("stuck", True), ("chain", 2), ("chain", 4), ("urgent", 2), ("urgent", 4), ("first", None))

    def check_chains(self, hub, model, key):
        found = chain(hub, key)
        self.assertEqual(found is None, not is_wanted(hub, key))
        if found is not None:
            self.assertIs(is_chain(hub, key, found), True)
            self.assertTrue(readings.is_chain(model, key, found))
            self.count("chain", len(found))
            self.count("first", found[0])
        found = urgency_chain(hub, key)
        self.assertEqual(found is None, urgency(hub, key) == -1)
        if found is not None:
            self.assertIs(is_chain(hub, key, found), True)
            self.assertTrue(readings.is_chain(model, key, found))
            self.assertEqual(hub.handles(found[0])[found[1]], urgency(hub, key))
            self.count("urgent", len(found))

    def test_chains_that_are_accepted(self):
        for pair in self.pairs(300, 40):
            hub, changer = pair.hub, Changer(pair)
            for _ in range(30):
                row = changer.walk()
                key = row[-1] if pair.random.random() < 0.9 else changer.key()
                value = pair.random.choice([[changer.first(), *row], changer.changed(chain(hub, row[-1]) or [])
                                            if row[-1] in hub else row])
                accepted = is_chain(hub, key, value)
                self.assertIs(accepted, readings.is_chain(pair.model, key, value), (key, value))
                self.assertTrue(is_wanted(hub, key) or not accepted)
                self.count("accepted", accepted)
                self.count("twice", accepted and len(value) > len(set(value)))
        self.check_counts(100, ("accepted", True), ("accepted", False), ("twice", True))

    def test_cuts_that_are_accepted(self):
        for pair in self.pairs(300, 40):
            hub, changer = pair.hub, Changer(pair)
            for _ in range(30):
                value = changer.changed(pair.random.choice((paused(hub), paused(hub)[1:], changer.row())))
                accepted = is_cut(hub, value)
                self.assertIs(accepted, readings.is_cut(pair.model, value), value)
                self.assertTrue(not accepted or not any(is_wanted(hub, key) for key in value))
                self.count("accepted", (accepted, bool(value)))
        self.check_counts(100, *[("accepted", (accepted, True)) for accepted in (True, False)])

    def test_bounds_that_are_accepted(self):
        for pair in self.pairs(300, 40):
            hub, changer = pair.hub, Changer(pair)
            right = {key: urgency(hub, key) for key in self.unfinished(hub)}
            for _ in range(20):
                value = changer.bounds(right)
                accepted = are_bounds(hub, value)
                self.assertIs(accepted, readings.are_bounds(pair.model, value), value)
                self.assertTrue(not accepted or all(right[key] <= value[key] for key in right))
                self.count("accepted", (accepted, value == right))
        self.check_counts(100, *[("accepted", told) for told in ((True, True), (True, False), (False, False))])

    def test_stuck_sets_that_are_accepted(self):
        for pair in self.pairs(400, 60):
            hub, changer = pair.hub, Changer(pair)
            waiting = [key for key in hub.tasks if hub.state(key) == "waiting"]
            for _ in range(20):
                some = pair.random.sample(waiting, pair.random.randint(0, len(waiting)))
                value = changer.changed(pair.random.choice((stuck(hub), some, some, ring(hub) or waiting)))
                accepted = is_stuck_set(hub, value)
                self.assertIs(accepted, readings.is_stuck_set(pair.model, value), value)
                self.count("accepted", accepted)
                if accepted:
                    self.check_stopped(pair, value)
        self.check_counts(100, ("accepted", True), ("accepted", False))

    def check_stopped(self, pair, keys):
        """Check that none of the tasks makes a step as long as it is there."""
        hub = pair.hub.copy()
        steps = {key: hub.steps(key) for key in keys}
        for _ in range(30):
            if pair.random.random() < 0.3:
                hub.ask(*pair.wish())
            hub.tick(pair.random.choice(Hub.POLICIES))
            steps = {key: steps[key] for key in steps if key in hub}
            self.assertEqual({key: hub.steps(key) for key in steps}, steps)


if __name__ == "__main__":
    unittest.main()
