"""Random deeds on hubs of random programs, compared with a second, slow hub."""

import unittest
from random import Random

from generating import random_program
from observing import seen
from pairs import Pair, USERS
from wantedwork.hubs import Hub
from wantedwork.language import format_program, parse_program


class ModelTest(unittest.TestCase):
    def compare(self, seed):
        pair = Pair(self, seed)
        for _ in range(pair.random.randint(10, 80)):
            pair.deed()
            self.assertEqual(seen(pair.hub), pair.model.seen(), seed)
        return pair.hub

    def test_random_deeds(self):
        states = {}
        for seed in range(400):
            hub = self.compare(seed)
            for key in hub.tasks:
                states[hub.state(key)] = True
        self.assertEqual(sorted(states), ["done", "failed", "new", "ready", "waiting"])

    def test_random_deeds_in_trials_and_on_copies(self):
        for seed in range(100):
            hub = self.compare(seed)
            before, copied = seen(hub), hub.copy()
            with hub.trial():
                self.scribble(Random(seed), hub)
                within = seen(hub)
            self.assertEqual((seen(hub), seen(copied)), (before, before))
            self.scribble(Random(seed), copied)
            self.assertEqual((seen(hub), seen(copied)), (before, within))
            self.scribble(Random(seed), hub)
            self.assertEqual((seen(hub), hub == copied), (within, True))

    def scribble(self, random, hub):
        """Do something on a hub."""
        for _ in range(20):
            plan = random.choice(hub.program.names)
            arguments = [random.randint(0, 2) for _ in hub.program[plan].arguments]
            hub.ask(random.choice(USERS), plan, *arguments, urgency=random.randint(0, 9))
            user = random.choice(hub.users)
            hub.drop(user, random.choice(list(hub.handles(user))))
            hub.run(3, random.choice(Hub.POLICIES))

    def test_random_programs_are_written_and_read(self):
        for seed in range(300):
            program = random_program(Random(seed), 6, 24, 6)
            text = format_program(program)
            self.assertEqual(parse_program(text) == program, True)
            self.assertEqual(format_program(parse_program(text)), text)


if __name__ == "__main__":
    unittest.main()
