"""A second, slow hub, written straight from the document, to compare the real one with.

Its tasks are Python generators that walk through the blocks of their plans, and what is
wanted, reached or urgent is searched anew each time.
"""

from fractions import Fraction

M = 1000000007


class NoRoom(Exception):
    """A call would create too many tasks."""


def walk(rows, task):
    """Yield the instructions in the order in which they are executed."""
    at = 0
    while at < len(rows):
        row = rows[at]
        if row[0] in ("if", "while"):
            block = rows[at + 1:at + 1 + row[2]]
            yield row
            while task.enters:
                yield from walk(block, task)
                if row[0] == "if":
                    break
                yield row
            at += row[2]
        else:
            yield row
        at += 1


class ModelTask:
    def __init__(self, key, plan):
        self.key, self.plan = key, plan
        self.names = dict(zip(plan.arguments, key[1]))
        self.value, self.reason, self.tied = {}, {}, {}
        self.enters = False
        self.walk = walk(list(plan.body), self)
        self.next = next(self.walk, None)
        self.steps, self.rest, self.work = 0, 0, 0
        self.result, self.why, self.noted = None, None, []

    def over(self):
        return self.result is not None or self.why is not None

    def worth(self, expression):
        if isinstance(expression, int):
            return expression
        if isinstance(expression, str):
            return self.names.get(expression, self.value.get(expression, 0))
        if expression[0] == "known":
            return 1 if expression[1] in self.value else 0
        if expression[0] == "reason":
            return self.reason.get(expression[1], 0)
        first, second = self.worth(expression[1]), self.worth(expression[2])
        return {"plus": (first + second) % M, "minus": (first - second) % M, "times": (first * second) % M,
                "less": 1 if first < second else 0, "same": 1 if first == second else 0}[expression[0]]


class Model:
    def __init__(self, program, patience, limit=500):
        self.program, self.patience, self.limit = program, patience, limit
        self.tasks, self.handles, self.effects, self.log = [], {}, [], []
        self.clock, self.cost, self.shares = 0, 0, {}

    def find(self, key):
        for task in self.tasks:
            if task.key == key:
                return task
        return None

    def made(self, key):
        if self.find(key) is None:
            if len(self.tasks) >= self.limit:
                raise NoRoom
            self.tasks.append(ModelTask(key, self.program[key[0]]))
        return self.find(key)

    def ask(self, user, plan, *arguments, urgency=0):
        self.made((plan, arguments))
        self.handles[user, (plan, arguments)] = urgency
        self.log.append(("ask", user, plan, arguments, urgency))

    def drop(self, user, key):
        del self.handles[user, key]
        self.log.append(("drop", user, key))

    def pass_on(self, user, other, key):
        self.handles[other, key] = self.handles.pop((user, key))
        self.log.append(("pass", user, other, key))

    def held(self, task):
        return [] if task.over() else [other for other in self.tasks if other.key in task.tied.values()]

    def closure(self, starts):
        """Return the unfinished tasks among some tasks and those that they hold, directly or not."""
        found = [task for task in starts if not task.over()]
        for task in found:
            found.extend([other for other in self.held(task) if not other.over() and other not in found])
        return found

    def wanted(self):
        starts = [self.find(key) for _, key in self.handles]
        return self.closure(starts + [task for task in self.tasks if task.plan.must_finish and task.steps])

    def reached(self, user, key):
        return self.closure([self.find(key)])

    def users_of(self, task):
        return sorted({user for user, key in self.handles if task in self.reached(user, key)})

    def urgency(self, task):
        return max([-1] + [self.handles[user, key] for user, key in self.handles if task in self.reached(user, key)])

    def counts(self, task, variables):
        others = [self.find(task.tied.get(variable)) for variable in variables]
        done = [other for other in others if other is not None and other.result is not None]
        over = [other for other in others if other is not None and other.over()]
        return len(done), len(over)

    def waiting(self, task):
        if task.over() or task.next is None or task.next[0] not in ("wait", "catch"):
            return False
        done, over = self.counts(task, task.next[-1])
        met = done >= task.next[1] if task.next[0] == "wait" else over == len(task.next[-1])
        return not met and over < len(task.next[-1])

    def able(self):
        wanted = self.wanted()
        return [task for task in self.tasks if task in wanted and not self.waiting(task)]

    def select(self, policy):
        return self.select_among(self.able(), policy)

    def select_among(self, able, policy):
        if not able:
            return None
        if policy == "newest":
            return able[-1]
        if policy == "urgent":
            urgencies = [self.urgency(task) for task in able]
            return able[urgencies.index(max(urgencies))]
        if policy == "fair":
            return min(able, key=lambda task: (task.steps, self.tasks.index(task)))
        return able[0]

    def tick(self, policy):
        task = self.select(policy)
        self.turn(task)
        self.log.append(("tick", policy))
        return None if task is None else task.key

    def pick(self, key):
        self.turn(self.find(key))
        self.log.append(("pick", key))

    def turn(self, task):
        if task is not None:
            self.step(task)
        self.clock += 1
        wanted = self.wanted()
        for other in self.tasks:
            other.rest = other.rest + 1 if not other.over() and other not in wanted else 0
        self.tasks = [other for other in self.tasks if other.rest <= self.patience]

    def step(self, task):
        row = task.next
        if row is None:
            task.result, task.next = task.worth(task.plan.result), None
            self.effects += [(task.key, text) for text in task.noted]
        else:
            getattr(self, "do_" + row[0])(task, *row[1:])
            task.next = None if task.over() else next(task.walk, None)
        task.steps += 1

    def do_work(self, task, cost):
        self.cost, task.work = self.cost + cost, task.work + cost
        users = self.users_of(task) or [None]
        for user in users:
            self.shares[user] = self.shares.get(user, 0) + Fraction(cost, len(users))

    def do_effect(self, task, text):
        task.noted.append(text)

    def do_set(self, task, variable, expression):
        task.value[variable] = task.worth(expression)
        task.tied.pop(variable, None)
        task.reason.pop(variable, None)

    def do_fail(self, task, expression):
        task.why = task.worth(expression)

    def do_call(self, task, variable, plan, expressions):
        key = (plan, tuple(task.worth(expression) for expression in expressions))
        self.made(key)
        task.tied[variable] = key
        task.value.pop(variable, None)
        task.reason.pop(variable, None)

    def do_wait(self, task, number, variables):
        others = [self.find(task.tied.get(variable)) for variable in variables]
        if self.counts(task, variables)[0] < number:
            task.why = [other.why for other in others if other.why is not None][0]
            return
        for variable, other in zip(variables, others):
            task.tied.pop(variable, None)
            if other is not None and other.result is not None:
                task.value[variable] = other.result

    def do_catch(self, task, variables):
        for variable in variables:
            other = self.find(task.tied.pop(variable))
            if other.why is None:
                task.value[variable] = other.result
            else:
                task.reason[variable] = other.why

    def do_drop(self, task, variable):
        task.tied.pop(variable, None)

    def do_if(self, task, expression, number):
        task.enters = task.worth(expression) != 0

    do_while = do_if

    def state(self, task):
        if task.over():
            return "failed" if task.result is None else "done"
        if task.steps == 0:
            return "new"
        return "waiting" if self.waiting(task) else "ready"

    def seen(self):
        """Return what observing.seen returns of a hub."""
        users = sorted({user for user, _ in self.handles})
        shares = [(user, self.shares[user]) for user in sorted([user for user in self.shares if user is not None])]
        shares += [(None, self.shares[None])] if None in self.shares else []
        return {
            "clock": self.clock,
            "tasks": [task.key for task in self.tasks],
            "len": len(self.tasks),
            "users": users,
            "handles": {user: self.handles_of(user) for user in users},
            "effects": self.effects,
            "cost": self.cost,
            "shares": [(user, (share.numerator, share.denominator)) for user, share in shares],
            "log": self.log,
            "each": [self.seen_task(task) for task in self.tasks],
        }

    def handles_of(self, user):
        return [(task.key, self.handles[user, task.key]) for task in self.tasks if (user, task.key) in self.handles]

    def seen_task(self, task):
        return {"key": task.key, "state": self.state(task), "result": task.result, "reason": task.why,
                "holds": [other.key for other in self.held(task)], "steps": task.steps, "rest": task.rest,
                "work": task.work}
