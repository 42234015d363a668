"""Hubs of random programs beside the slow hub, with the same random deeds on both."""

from random import Random

from generating import random_program
from model import Model, NoRoom
from wantedwork.errors import InvalidPolicy, LimitExceeded
from wantedwork.hubs import Hub

USERS = ("ann", "bob", "cleo", "dan")


class Pair:
    """A hub and a slow hub on which the same deeds are done; whatever a deed returns is compared."""

    def __init__(self, case, seed, **more):
        self.case = case
        self.random = Random(seed)
        self.program = random_program(self.random, self.random.randint(2, 5), 16, **more)
        patience = self.random.choice((0, 1, 2, 10))
        self.hub, self.model = Hub(self.program, patience=patience), Model(self.program, patience)

    def deed(self):
        """Do one deed or none."""
        kind = self.random.choice(("ask", "ask", "drop", "pass", "pick") + ("tick",) * 10)
        if kind == "tick" and not self.model.able() and self.random.random() < 0.8:
            kind = "ask"
        handles = [(user, key) for user in self.hub.users for key in self.hub.handles(user)]
        if kind == "ask":
            self.ask()
        elif kind == "drop" and handles:
            user, key = self.random.choice(handles)
            self.hub.drop(user, key)
            self.model.drop(user, key)
        elif kind == "pass" and handles:
            user, key = self.random.choice(handles)
            other = self.random.choice(USERS)
            self.hub.pass_on(user, other, key)
            self.model.pass_on(user, other, key)
        elif kind == "pick" and len(self.hub) > 0:
            self.pick(self.random.choice(self.hub.tasks))
            self.pick(self.hub.tasks[-1])
        elif kind == "tick":
            self.tick(self.random.choice(Hub.POLICIES))

    def wish(self):
        """Return a user, a plan and arguments for it."""
        plan = self.random.choice(self.program.names)
        return self.random.choice(USERS), plan, *[self.random.randint(0, 2) for _ in self.program[plan].arguments]

    def ask(self):
        wish, urgency = self.wish(), self.random.randint(0, 9)
        self.hub.ask(*wish, urgency=urgency)
        self.model.ask(*wish, urgency=urgency)

    def pick(self, key):
        if self.model.find(key) in self.model.able():
            self.hub.pick(key)
            self.model.pick(key)
        else:
            with self.case.assertRaises(InvalidPolicy):
                self.hub.pick(key)

    def tick(self, policy):
        try:
            expected = self.model.tick(policy)
        except NoRoom:
            with self.case.assertRaises(LimitExceeded):
                self.hub.tick(policy)
            return
        self.case.assertEqual(self.hub.tick(policy), expected)
