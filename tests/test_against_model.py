"""Random deeds on hubs of random programs, compared with a second, slow hub."""

import unittest
from random import Random

from generating import random_program
from model import Model, NoRoom
from observing import seen
from wantedwork.errors import InvalidPolicy, LimitExceeded
from wantedwork.hubs import Hub
from wantedwork.language import format_program, parse_program

USERS = ("ann", "bob", "cleo", "dan")


class ModelTest(unittest.TestCase):
    def compare(self, seed):
        random = Random(seed)
        program = random_program(random, random.randint(2, 5), 16)
        patience = random.choice((0, 1, 2, 10))
        hub, model = Hub(program, patience=patience), Model(program, patience)
        for _ in range(random.randint(10, 80)):
            self.deed(random, hub, model)
            self.assertEqual(seen(hub), model.seen(), seed)
        return hub

    def deed(self, random, hub, model):
        kind = random.choice(("ask", "ask", "drop", "pass", "pick") + ("tick",) * 10)
        if kind == "tick" and not model.able() and random.random() < 0.8:
            kind = "ask"
        handles = [(user, key) for user in hub.users for key in hub.handles(user)]
        if kind == "ask":
            self.ask(random, hub, model)
        elif kind == "drop" and handles:
            user, key = random.choice(handles)
            hub.drop(user, key)
            model.drop(user, key)
        elif kind == "pass" and handles:
            user, key = random.choice(handles)
            other = random.choice(USERS)
            hub.pass_on(user, other, key)
            model.pass_on(user, other, key)
        elif kind == "pick" and len(hub) > 0:
            self.pick(hub, model, random.choice(hub.tasks))
            self.pick(hub, model, hub.tasks[-1])
        elif kind == "tick":
            self.tick(hub, model, random.choice(Hub.POLICIES))

    def ask(self, random, hub, model):
        plan = random.choice(hub.program.names)
        arguments = [random.randint(0, 2) for _ in hub.program[plan].arguments]
        user, urgency = random.choice(USERS), random.randint(0, 9)
        hub.ask(user, plan, *arguments, urgency=urgency)
        model.ask(user, plan, *arguments, urgency=urgency)

    def pick(self, hub, model, key):
        if model.find(key) in model.able():
            hub.pick(key)
            model.pick(key)
        else:
            with self.assertRaises(InvalidPolicy):
                hub.pick(key)

    def tick(self, hub, model, policy):
        try:
            expected = model.tick(policy)
        except NoRoom:
            with self.assertRaises(LimitExceeded):
                hub.tick(policy)
            return
        self.assertEqual(hub.tick(policy), expected)

    def test_random_deeds(self):
        states = {}
        for seed in range(400):
            hub = self.compare(seed)
            for key in hub.tasks:
                states[hub.state(key)] = True
        self.assertEqual(sorted(states), ["done", "failed", "new", "ready", "waiting"])

    def test_random_deeds_in_trials_and_on_copies(self):
        for seed in range(100):
            hub = self.compare(seed)
            before, copied = seen(hub), hub.copy()
            with hub.trial():
                self.scribble(Random(seed), hub)
                within = seen(hub)
            self.assertEqual((seen(hub), seen(copied)), (before, before))
            self.scribble(Random(seed), copied)
            self.assertEqual((seen(hub), seen(copied)), (before, within))
            self.scribble(Random(seed), hub)
            self.assertEqual((seen(hub), hub == copied), (within, True))

    def scribble(self, random, hub):
        """Do something on a hub."""
        for _ in range(20):
            plan = random.choice(hub.program.names)
            arguments = [random.randint(0, 2) for _ in hub.program[plan].arguments]
            hub.ask(random.choice(USERS), plan, *arguments, urgency=random.randint(0, 9))
            user = random.choice(hub.users)
            hub.drop(user, random.choice(list(hub.handles(user))))
            hub.run(3, random.choice(Hub.POLICIES))

    def test_random_programs_are_written_and_read(self):
        for seed in range(300):
            program = random_program(Random(seed), 6, 24, 6)
            text = format_program(program)
            self.assertEqual(parse_program(text) == program, True)
            self.assertEqual(format_program(parse_program(text)), text)


if __name__ == "__main__":
    unittest.main()
