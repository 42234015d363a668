"""Random expressions, plans and programs for tests."""

from wantedwork.plans import Plan, Program

OPERATIONS = ("plus", "minus", "times", "less", "same")
M = 1000000007


def random_expression(random, arguments, variables, deepest):
    """Return an expression over these words, nested so deep at most."""
    if deepest > 1 and random.random() < 0.6:
        operation = random.choice(OPERATIONS)
        first = random_expression(random, arguments, variables, deepest - 1)
        return operation, first, random_expression(random, arguments, variables, deepest - 1)
    leaves = [random.choice((0, 1, 2, 3, M - 1))] + [random.choice(words) for words in (arguments, variables) if words]
    if variables:
        leaves.append((random.choice(("known", "reason")), random.choice(variables)))
    return random.choice(leaves)


class BodyMaker:
    """Makes a random body."""

    def __init__(self, random, arguments, sizes, words, deepest, determinate):
        self.random = random
        self.determinate = determinate
        self.arguments = arguments
        self.sizes = sizes
        self.words = words
        self.deepest = deepest
        self.named = []
        self.called = []

    def expression(self):
        return random_expression(self.random, self.arguments, self.named, self.random.randint(1, self.deepest))

    def small(self):
        """Return an expression with few values, so that tasks are shared."""
        value = random_expression(self.random, self.arguments, self.named, 2)
        return self.random.choice((0, 1, value, ("less", 0, value)))

    def variables(self):
        different = sorted(set(self.called))
        self.random.shuffle(different)
        return tuple(different[:self.random.randint(1, min(6, len(different)))])

    def block(self, length, deep):
        """Return a list of that many instructions."""
        rows = []
        while len(rows) < length:
            room = length - len(rows)
            if room > 1 and deep < 4 and self.random.random() < 0.25:
                name, number = self.random.choice(("if", "if", "while")), self.random.randint(1, room - 1)
                rows.append((name, self.expression(), number))
                rows.extend(self.block(number, deep + 1))
            else:
                rows.append(self.plain())
        return rows

    def plain(self):
        kinds = ["work", "set", "effect"] + ["call"] * (5 - min(3, len(self.called)))
        if self.called:
            kinds += ["wait"] * 4 + ["catch"] * 2 + ["drop"] * (self.random.random() < 0.3)
        kind = self.random.choice(kinds + ["fail"] * (self.random.random() < 0.5))
        return getattr(self, kind)()

    def work(self):
        return "work", self.random.randint(1, 9)

    def set(self):
        expression, variable = self.expression(), self.random.choice(self.words)
        self.named.append(variable)
        return "set", variable, expression

    def fail(self):
        return "fail", self.expression()

    def call(self):
        plan = self.random.choice(sorted(self.sizes))
        expressions = tuple(self.small() for _ in range(self.sizes[plan]))
        variable = self.random.choice(self.words)
        self.named.append(variable)
        self.called.append(variable)
        return "call", variable, plan, expressions

    def wait(self):
        variables = self.variables()
        number = len(variables) if self.determinate else self.random.randint(1, len(variables))
        return "wait", number, variables

    def catch(self):
        return "catch", self.variables()

    def drop(self):
        return "drop", self.random.choice(self.called)

    def effect(self):
        return "effect", self.random.choice(("a", "Say 2", "x  y", "Z"))


def random_plan(random, sizes, name, most=10, deepest=3, determinate=False):
    """Return a plan that calls plans with these numbers of arguments, itself among them."""
    arguments = tuple(random.sample(("a", "b", "reason", "less"), sizes[name]))
    maker = BodyMaker(random, arguments, sizes, ("u", "v", "w", "known", "plus", "say"), deepest, determinate)
    body = maker.block(random.randint(0, most), 0)
    return Plan(arguments, body, maker.expression(), must_finish=random.random() < 0.3)


def random_program(random, plans=4, most=10, deepest=3, determinate=False):
    """Return a program of some plans, all of them determinate or not."""
    sizes = {name: random.choice((0, 1, 1, 2)) for name in ("pa", "qb", "rc", "must", "plan", "t")[:plans]}
    return Program({name: random_plan(random, sizes, name, most, deepest, determinate) for name in sizes})
