"""The console: commands, answers, and what is no command."""

import re
import unittest

from observing import Contrary, NO_INTEGERS, seen
from pairs import Pair
from wantedwork.console import Console
from wantedwork.errors import (
    InvalidCommand, InvalidKey, InvalidNumber, InvalidPolicy, InvalidProgram, LimitExceeded, NotHeld, UnknownTask, WorkError,
)
from wantedwork.hubs import Hub
from wantedwork.language import parse_program
from wantedwork.stopping import stuck
from wantedwork.urging import urgency
from wantedwork.wanting import chain, paused, wanted

PROGRAM = parse_program("""plan job n
  work 1
  work 2
  say did it
result n
must duty
  work 5
  say a  b
  say C3
  fail 3
result 0
plan boss n
  call x job(n)
  wait 1 of x
result x
plan add a b
  work 4
  say sum
result a + b
plan three a b c
result a + b * c
plan self
  call x self()
  wait 1 of x
result x
plan row n
  call x row(n + 1)
result 0
plan ask tick
result tick
plan tick
result 0
plan tasks
result 0""")
JOB, BOSS, DUTY = ("job", (1,)), ("boss", (1,)), ("duty", ())


class ConsoleCase(unittest.TestCase):
    def setUp(self):
        self.console = Console(PROGRAM)

    def answers(self, *lines):
        """Return the answer to the last one of some commands."""
        return [self.console.execute(line) for line in lines][-1]

    def assert_raises(self, error, field, value, line):
        """Check that a command raises an error, and that the hub does not change."""
        before = seen(self.console.hub_copy())
        with self.assertRaises(error) as caught:
            self.console.execute(line)
        self.assertIs(type(caught.exception), error)
        self.assertEqual(getattr(caught.exception, field), value)
        self.assertIs(type(getattr(caught.exception, field)), type(value))
        self.assertEqual(seen(self.console.hub_copy()), before)

    def assert_no_command(self, *lines):
        for line in lines:
            self.assert_raises(InvalidCommand, "value", line, line)


class MakingTest(ConsoleCase):
    def test_the_hub(self):
        hub = self.console.hub_copy()
        self.assertIs(type(hub), Hub)
        self.assertIs(hub == Hub(PROGRAM), True)
        self.assertIs(Console(program=PROGRAM, patience=3).hub_copy() == Hub(PROGRAM, patience=3), True)
        with self.assertRaises(TypeError):
            Console(PROGRAM, 3)

    def test_raises_as_hub(self):
        for program in (None, {}, "plan a\nresult 0", Contrary()):
            for patience in (1, None):
                with self.assertRaises(InvalidProgram) as caught:
                    Console(program, patience=patience)
                self.assertIsNone(caught.exception.name)
        for patience in (-1, 1001) + NO_INTEGERS:
            with self.assertRaises(InvalidNumber) as caught:
                Console(PROGRAM, patience=patience)
            self.assertIs(caught.exception.value, patience)

    def test_a_copy_is_one(self):
        self.answers("ask ann 1 job(1)")
        hub = self.console.hub_copy()
        hub.run(9)
        hub.drop("ann", JOB)
        self.assertIsNot(self.console.hub_copy(), self.console.hub_copy())
        self.assertEqual((self.answers("tasks"), self.answers("state job(1)"), self.answers("cost")), ("job(1)", "new", "0"))
        self.answers("tick fair")
        self.assertEqual(hub.clock, 4 + 1)
        self.assertEqual(self.console.hub_copy().log, [("ask", "ann", "job", (1,), 1), ("tick", "fair")])

    def test_two_consoles(self):
        other = Console(PROGRAM)
        self.answers("ask ann 0 job(1)")
        self.assertEqual(other.execute("tasks"), "-")

    def test_by_name(self):
        self.assertEqual(self.console.execute(line="tasks"), "-")


class DeedsTest(ConsoleCase):
    def test_ask(self):
        self.assertEqual(self.answers("ask ann 2 add(1,2)"), "add(1,2)")
        self.assertEqual(self.answers("ask bob 9 duty()"), "duty()")
        self.assertEqual(self.answers("ask bob 0 job(1000000006)"), "job(1000000006)")
        self.assertEqual(self.answers("ask abcdefgh 0 three(0,10,200)"), "three(0,10,200)")
        self.assertEqual(self.answers("ask ann 3 add(1,2)"), "add(1,2)")
        self.assertEqual(self.console.hub_copy().log, [
            ("ask", "ann", "add", (1, 2), 2), ("ask", "bob", "duty", (), 9), ("ask", "bob", "job", (1000000006,), 0),
            ("ask", "abcdefgh", "three", (0, 10, 200), 0), ("ask", "ann", "add", (1, 2), 3),
        ])

    def test_drop_and_pass(self):
        self.answers("ask ann 2 job(1)")
        self.assertEqual(self.answers("pass ann bob job(1)"), "ok")
        self.assertEqual(self.answers("pass bob bob job(1)"), "ok")
        self.assertEqual(self.answers("drop bob job(1)"), "ok")
        self.assertEqual(self.console.hub_copy().log[1:], [("pass", "ann", "bob", JOB), ("pass", "bob", "bob", JOB),
                                                           ("drop", "bob", JOB)])

    def test_tick_and_pick(self):
        self.assertEqual(self.answers("tick oldest"), "-")
        self.answers("ask ann 2 job(1)", "ask ann 3 duty()")
        self.assertEqual([self.answers(f"tick {policy}") for policy in Hub.POLICIES], ["job(1)", "duty()", "duty()", "job(1)"])
        self.assertEqual(self.answers("pick duty()"), "duty()")
        self.assertEqual(self.console.hub_copy().log[3:], [("tick", policy) for policy in Hub.POLICIES] + [("pick", DUTY)])

    def test_run(self):
        self.answers("ask ann 2 job(1)", "ask ann 3 duty()")
        self.assertEqual([self.answers(line) for line in ("run 0 fair", "run 3 newest", "run 10000 urgent", "run 1 oldest")],
                         ["0", "3", "5", "0"])
        self.assertEqual(self.console.hub_copy().clock, 3 + 6 + 1)
        self.assertEqual(self.console.hub_copy().log[2:5], [("tick", "newest")] * 3)


class QuestionsTest(ConsoleCase):
    def test_state(self):
        self.answers("ask ann 0 job(1)", "ask ann 0 duty()", "ask ann 0 boss(2)")
        self.assertEqual(self.answers("state job(1)"), "new")
        self.assertEqual(self.answers("tick oldest", "state job(1)"), "ready")
        self.assertEqual(self.answers("pick boss(2)", "state boss(2)"), "waiting")
        self.answers("run 99 oldest")
        self.assertEqual([self.answers(f"state {key}") for key in ("job(1)", "duty()", "boss(2)", "job(2)")],
                         ["done", "failed", "done", "done"])

    def test_result_and_reason(self):
        self.answers("ask ann 0 job(7)", "ask ann 0 duty()", "ask ann 0 job(0)")
        for key in ("job(7)", "duty()"):
            self.assertEqual((self.answers(f"result {key}"), self.answers(f"reason {key}")), ("-", "-"))
        self.answers("run 99 oldest")
        self.assertEqual([self.answers(f"result {key}") for key in ("job(7)", "duty()", "job(0)")], ["7", "-", "0"])
        self.assertEqual([self.answers(f"reason {key}") for key in ("job(7)", "duty()", "job(0)")], ["-", "3", "-"])

    def test_a_reason_of_0(self):
        console = Console(parse_program("plan p\n  fail 0\nresult 0"))
        self.assertEqual([console.execute(line) for line in ("ask a 0 p()", "run 9 fair", "reason p()", "result p()")],
                         ["p()", "1", "0", "-"])

    def test_rest(self):
        self.answers("ask ann 0 job(1)", "drop ann job(1)")
        self.assertEqual([self.answers("rest job(1)", "tick fair", "rest job(1)") for _ in range(3)], ["1", "2", "3"])
        self.assertEqual(self.answers("ask ann 0 job(1)", "tick fair", "rest job(1)"), "0")

    def test_urgency(self):
        self.answers("ask ann 4 boss(1)", "tick oldest")
        self.assertEqual([self.answers(f"urgency {key}") for key in ("boss(1)", "job(1)")], ["4", "4"])
        self.assertEqual(self.answers("ask bob 0 job(2)", "urgency job(2)"), "0")
        self.assertEqual(self.answers("drop ann boss(1)", "urgency job(1)"), "-1")
        self.assertEqual(self.answers("ask ann 9 tick()", "run 99 urgent", "urgency tick()"), "-1")

    def test_lists_of_tasks(self):
        self.assertEqual([self.answers(name) for name in ("wanted", "paused", "stuck", "tasks")], ["-"] * 4)
        self.answers("ask ann 0 self()", "tick oldest", "ask ann 0 boss(1)", "pick boss(1)", "ask bob 0 add(3,4)", "drop bob add(3,4)",
                     "ask bob 0 duty()", "drop bob duty()", "ask bob 0 tasks()", "pick tasks()")
        self.assertEqual(self.answers("tasks"), "self() boss(1) job(1) add(3,4) duty() tasks()")
        self.assertEqual(self.answers("wanted"), "self() boss(1) job(1)")
        self.assertEqual(self.answers("paused"), "add(3,4) duty()")
        self.assertEqual(self.answers("stuck"), "self()")

    def test_why(self):
        self.answers("ask ann 0 boss(1)", "tick oldest")
        self.assertEqual(self.answers("why boss(1)"), "ann boss(1)")
        self.assertEqual(self.answers("why job(1)"), "ann boss(1) job(1)")
        self.assertEqual(self.answers("drop ann boss(1)", "why job(1)"), "-")
        self.answers("ask ann 0 duty()")
        self.assertEqual(self.answers("pick duty()", "drop ann duty()", "why duty()"), "- duty()")
        self.assertEqual(self.answers("run 9 oldest", "why duty()"), "-")

    def test_cost(self):
        self.assertEqual(self.answers("cost"), "0")
        self.answers("ask zed 0 job(1)", "ask ann 0 job(1)", "tick oldest")
        self.assertEqual(self.answers("cost"), "1 ann=1/2 zed=1/2")
        self.answers("tick oldest", "drop zed job(1)", "drop ann job(1)", "ask bob 0 duty()", "ask house 0 duty()", "tick oldest")
        self.assertEqual(self.answers("cost"), "8 ann=3/2 bob=5/2 house=5/2 zed=3/2")

    def test_cost_of_the_house(self):
        console = Console(parse_program("must job\n  work 5\n  work 4\nresult 0"))
        for line in ("ask zed 0 job()", "tick fair", "drop zed job()", "tick fair"):
            console.execute(line)
        self.assertEqual(console.execute("cost"), "9 zed=5/1 house=4/1")
        self.assertEqual([console.execute(line) for line in ("ask house 0 job()", "run 9 fair", "cost")][-1], "9 zed=5/1 house=4/1")

    def test_effects(self):
        self.assertEqual(self.answers("effects"), "-")
        self.answers("ask ann 0 add(1,2)", "tick oldest", "tick oldest")
        self.assertEqual(self.answers("effects"), "-")
        self.assertEqual(self.answers("tick oldest", "effects"), "add(1,2):sum")
        self.answers("ask ann 0 job(5)", "ask ann 0 duty()", "run 99 newest")
        self.assertEqual(self.answers("effects"), "add(1,2):sum; job(5):did it")

    def test_effects_with_spaces(self):
        console = Console(parse_program("plan p\n  say a  b\n  say C3\nresult 0"))
        self.assertEqual([console.execute(line) for line in ("ask a 0 p()", "run 9 fair", "effects")][-1], "p():a  b; p():C3")

    def test_questions_change_nothing(self):
        self.answers("ask ann 0 boss(1)", "run 2 oldest")
        before = seen(self.console.hub_copy())
        for line in ("state boss(1)", "result boss(1)", "reason boss(1)", "rest boss(1)", "urgency boss(1)", "wanted", "paused", "stuck",
                     "tasks", "why boss(1)", "cost", "effects", "run 0 fair"):
            self.assertIs(type(self.answers(line)), str)
        self.assertEqual(seen(self.console.hub_copy()), before)


class NoCommandTest(ConsoleCase):
    COMMANDS = (
        "ask ann 2 job(1)", "tick fair", "run 0 oldest", "pick job(1)", "pass ann bob job(1)", "state job(1)", "result job(1)",
        "reason job(1)", "rest job(1)", "urgency job(1)", "why job(1)", "drop bob job(1)", "wanted", "paused", "stuck", "tasks", "cost",
        "effects",
    )

    def test_these_are_commands(self):
        for line in self.COMMANDS:
            self.assertIs(type(self.console.execute(line)), str)

    def test_spaces(self):
        for line in self.COMMANDS:
            self.assert_no_command(" " + line, line + " ", "  " + line, line + "  ", "\n" + line, line + "\n", line.replace(" ", "\n", 1) + " ")
            for place, sign in enumerate(line):
                if sign == " ":
                    self.assert_no_command(line[:place] + " " + line[place:], line[:place] + "\t" + line[place + 1:],
                                           line[:place] + line[place + 1:])

    def test_spaces_in_keys(self):
        self.answers("ask ann 0 add(1,2)")
        self.assert_no_command("state add(1, 2)", "state add (1,2)", "state add( 1,2)", "state add(1,2 )", "state add(1 ,2)")

    def test_more_and_fewer_words(self):
        for line in self.COMMANDS:
            self.assert_no_command(line + " fair", line + " job(1)", line + " 0", line + " -")
            if " " in line:
                self.assert_no_command(line.rsplit(" ", 1)[0], line.split(" ")[0], line.split(" ", 1)[1])

    def test_other_texts(self):
        self.assert_no_command("", " ", "\n", "-", "help", "Ask ann 2 job(1)", "TASKS", "task", "taskss", "log", "clock", "trial", "copy",
                               "ticks fair", "pass_on ann bob job(1)", "idle", "0 tick fair", "tick fair #0", "users", "job(1)", "word",
                               "state", "tasks()", "ask", "__init__", "'tasks'")

    def test_values_that_are_no_texts(self):
        for value in (None, 0, True, 1.5, b"tasks", ["tasks"], ("tasks",), {"tasks": 1}, {"tasks"}, (), object(), Contrary(), str):
            with self.assertRaises(InvalidCommand) as caught:
                self.console.execute(value)
            self.assertIs(type(caught.exception), InvalidCommand)
            self.assertIs(caught.exception.value, value)

    def test_words(self):
        self.answers("ask ann 0 job(1)")
        for word in ("", "Ann", "ninechars", "a1", "1", "a-b", "ann()", "-", "a_b", "a.b", "job(1)", "\"ann\""):
            self.assert_no_command(f"ask {word} 0 job(1)", f"drop {word} job(1)", f"pass {word} bob job(1)", f"pass ann {word} job(1)",
                                   f"tick {word}", f"run 1 {word}")

    def test_keys(self):
        for key in ("", "job", "job(", "job)", "(1)", "()", "(", ")", "job()1", "job(1", "job1)", "job((1))", "job(1))", "job(1)(1)",
                    "job(,)", "job(1,)", "job(,1)", "job(1,,1)", "Job(1)", "ninechars(1)", "job(01)", "job(00)", "job(1,02)",
                    "job(12345678901)", "job(00000000001)", "job(-1)", "job(+1)", "job(1.0)", "job(a)", "job(True)", "job[1]", "job{1}",
                    "j1(1)", "j-b(1)", "job(1;1)", "1(1)", "'job'(1)", "job(1_0)", "job(12",
                    "job(1]", "job(1(", "job(1,2", "job(1)x", "job(1),", "jobx1)", "job(1,1]"):
            self.assert_no_command(f"ask ann 0 {key}", f"drop ann {key}", f"pass ann bob {key}", f"pick {key}", f"state {key}",
                                   f"result {key}", f"reason {key}", f"rest {key}", f"urgency {key}", f"why {key}")

    def test_numbers(self):
        for number in ("", "00", "01", "09", "0000000000", "-1", "+1", "1.0", "a", "1a", "10000000000", "00000000001", "1_0", "(1)", "job(1)",
                       "1,0", "One", "9" * 5000):
            self.assert_no_command(f"run {number} oldest", f"ask ann {number} job(1)")

    def test_it_comes_ahead_of_what_the_method_raises(self):
        self.assert_no_command("ask ann 99 no(1) ", "ask Ann 99 no(1)", "ask ann 099 no(1)", "ask ann 99 no(01)", "drop bob job(1) 1",
                               "pick  job(1)", "state job(01)", "run 99999 Old", "run 099999 old", "tick Old", "drop Bob job(1)")


class RaisedTest(ConsoleCase):
    def setUp(self):
        ConsoleCase.setUp(self)
        self.answers("ask ann 2 job(1)")

    def test_keys_that_are_none_of_the_program(self):
        for text, key in (("no()", ("no", ())), ("job()", ("job", ())), ("job(1,2)", ("job", (1, 2))), ("duty(0)", ("duty", (0,))),
                          ("job(1000000007)", ("job", (1000000007,))), ("job(9999999999)", ("job", (9999999999,))),
                          ("job(1,2,3,4)", ("job", (1, 2, 3, 4))), ("three(1,2,3,4,5)", ("three", (1, 2, 3, 4, 5)))):
            self.assert_raises(InvalidKey, "value", key, f"ask ann 2 {text}")
            self.assert_raises(InvalidKey, "value", key, f"ask ann 99 {text}")
            self.assert_raises(NotHeld, "key", key, f"drop ann {text}")
            self.assert_raises(NotHeld, "key", key, f"pass ann ann {text}")
            for name in ("pick", "state", "result", "reason", "rest", "urgency", "why"):
                self.assert_raises(UnknownTask, "key", key, f"{name} {text}")

    def test_urgencies(self):
        for text in ("10", "99", "9999999999"):
            self.assert_raises(InvalidNumber, "value", int(text), f"ask ann {text} job(1)")
        self.assertEqual(self.answers("ask ann 9 job(1)"), "job(1)")

    def test_handles(self):
        self.assert_raises(NotHeld, "key", JOB, "drop bob job(1)")
        self.assert_raises(NotHeld, "key", JOB, "pass bob ann job(1)")
        self.assert_raises(NotHeld, "key", DUTY, "drop ann duty()")

    def test_tasks_that_are_not_there(self):
        for name in ("pick", "state", "result", "reason", "rest", "urgency", "why"):
            self.assert_raises(UnknownTask, "key", DUTY, f"{name} duty()")

    def test_policies(self):
        for policy in ("old", "oldestt", "random", "fairer"):
            self.assert_raises(InvalidPolicy, "value", policy, f"tick {policy}")
            self.assert_raises(InvalidPolicy, "value", policy, f"run 3 {policy}")
            self.assert_raises(InvalidPolicy, "value", policy, f"run 0 {policy}")
            self.assert_raises(InvalidNumber, "value", 10001, f"run 10001 {policy}")

    def test_pick(self):
        self.answers("run 99 oldest")
        self.assert_raises(InvalidPolicy, "value", JOB, "pick job(1)")
        self.answers("ask ann 0 duty()", "drop ann duty()")
        self.assert_raises(InvalidPolicy, "value", DUTY, "pick duty()")

    def test_run(self):
        for text in ("10001", "9999999999"):
            self.assert_raises(InvalidNumber, "value", int(text), f"run {text} oldest")
        self.assertEqual(self.answers("run 10000 oldest"), "4")

    def test_more_than_500_tasks(self):
        for number in range(498):
            self.answers(f"ask ann 0 add({number},0)")
        self.answers("ask ann 0 row(1)")
        self.assert_raises(LimitExceeded, "limit", 500, "ask ann 0 duty()")
        self.assert_raises(LimitExceeded, "limit", 500, "tick newest")
        self.assert_raises(LimitExceeded, "limit", 500, "pick row(1)")
        self.assert_raises(LimitExceeded, "limit", 500, "run 9 newest")
        with self.assertRaises(LimitExceeded):
            self.console.execute("run 10000 oldest")
        self.assertEqual(self.console.hub_copy().clock, 4 + 3 * 498)


class NamesTest(ConsoleCase):
    def test_plans_and_users_with_the_names_of_commands(self):
        self.assertEqual(self.answers("ask ask 1 ask(1)"), "ask(1)")
        self.assertEqual(self.answers("ask tick 1 tick()"), "tick()")
        self.assertEqual(self.answers("pass ask drop ask(1)"), "ok")
        self.assertEqual(self.answers("pass drop pass ask(1)"), "ok")
        self.assertEqual(self.answers("why ask(1)"), "pass ask(1)")
        self.assertEqual(self.answers("pick tick()"), "tick()")
        self.assertEqual(self.answers("ask tasks 0 tasks()", "drop tasks tasks()", "tasks"), "ask(1) tick() tasks()")
        self.assertEqual(self.answers("run 9 fair", "result ask(1)"), "1")
        self.assert_no_command("ask(1)", "tick()", "tasks()", "ask ask ask ask(1)", "drop drop drop")

    def test_every_command_as_a_plan_and_as_a_user(self):
        names = ("ask", "drop", "pass", "tick", "pick", "run", "state", "result", "reason", "rest", "urgency", "wanted", "paused", "stuck",
                 "tasks", "why", "cost", "effects", "word", "number", "key", "house", "oldest")
        for name in names:
            console = Console(parse_program(f"must {name} n\n  work 2\n  say hi\nresult n"))
            lines = (f"ask {name} 3 {name}(4)", "tick urgent", f"why {name}(4)", f"pass {name} {name} {name}(4)", f"drop {name} {name}(4)",
                     f"why {name}(4)", "run 9 fair", f"result {name}(4)", "effects", "cost", "tasks")
            self.assertEqual([console.execute(line) for line in lines], [
                f"{name}(4)", f"{name}(4)", f"{name} {name}(4)", "ok", "ok", f"- {name}(4)", "2", "4", f"{name}(4):hi", f"2 {name}=2/1",
                f"{name}(4)",
            ])


def written(key):
    return key[0] + str(key[1]).replace(" ", "").replace(",)", ")")


def listed(keys):
    return " ".join(written(key) for key in keys) or "-"


class DrawnTest(unittest.TestCase):
    def test_commands_as_deeds(self):
        counts = {}
        for seed in range(150):
            pair = Pair(self, seed)
            console = Console(pair.program, patience=pair.hub.patience)
            for _ in range(pair.random.randint(1, 60)):
                done = len(pair.hub.log)
                pair.deed()
                for deed in pair.hub.log[done:]:
                    self.execute(console, deed)
                self.assertIs(console.hub_copy() == pair.hub, True)
                self.ask(console, pair)
            for kind, line in self.drawn_lines(pair):
                self.try_line(console, kind, line, counts)
        self.assertGreater(min(counts.values()), 50, counts)

    def execute(self, console, deed):
        before = console.hub_copy()
        if deed[0] == "ask":
            _, user, plan, arguments, number = deed
            key = written((plan, arguments))
            self.assertEqual(console.execute(f"ask {user} {number} {key}"), key)
        elif deed[0] in ("drop", "pass"):
            self.assertEqual(console.execute(" ".join([*deed[:-1], written(deed[-1])])), "ok")
        elif deed[0] == "pick":
            self.assertEqual(console.execute(f"pick {written(deed[1])}"), written(deed[1]))
        else:
            key = before.tick(deed[1])
            self.assertEqual(console.execute(f"tick {deed[1]}"), "-" if key is None else written(key))

    def ask(self, console, pair):
        """Compare the answers to all questions with what the hub tells."""
        hub = pair.hub
        for name, keys in (("wanted", wanted(hub)), ("paused", paused(hub)), ("stuck", stuck(hub)), ("tasks", hub.tasks)):
            self.assertEqual(console.execute(name), listed(keys))
        shares = [f" {user or 'house'}={above}/{below}" for user, (above, below) in hub.shares.items()]
        self.assertEqual(console.execute("cost"), str(hub.cost) + "".join(shares))
        self.assertEqual(console.execute("effects"), "; ".join(f"{written(key)}:{text}" for key, text in hub.effects) or "-")
        for key in hub.tasks[:4]:
            name, found = written(key), chain(hub, key)
            numbers = {"result": hub.result_of(key), "reason": hub.reason_of(key), "rest": hub.rest(key), "urgency": urgency(hub, key)}
            self.assertEqual({word: console.execute(f"{word} {name}") for word in numbers},
                             {word: "-" if number is None else str(number) for word, number in numbers.items()})
            self.assertEqual(console.execute(f"state {name}"), hub.state(key))
            self.assertEqual(console.execute(f"why {name}"), "-" if found is None else f"{found[0] or '-'} {listed(found[1:])}")

    def drawn_lines(self, pair):
        """Yield lines made of drawn words, and whether they have the form of a command."""
        words = ("ask", "drop", "pass", "tick", "pick", "run", "state", "why", "cost", "tasks", "ann", "bob", "oldest", "0", "7", "10", "07",
                 "pa(0)", "qb(1)", "rc()", "pa(0,1)", "pa(00)", "")
        word, number, key = "[a-z]{1,8}", "(0|[1-9][0-9]{0,9})", r"[a-z]{1,8}\(((0|[1-9][0-9]{0,9})(,(0|[1-9][0-9]{0,9}))*)?\)"
        form = (rf"ask {word} {number} {key}|drop {word} {key}|pass {word} {word} {key}|tick {word}|run {number} {word}"
                rf"|(pick|state|why) {key}|cost|tasks")
        for _ in range(60):
            line = " ".join(pair.random.choice(words) for _ in range(pair.random.choice((1, 2, 2, 2, 3, 3, 4))))
            yield re.fullmatch(form, line) is not None, line

    def try_line(self, console, kind, line, counts):
        counts[kind] = counts.get(kind, 0) + 1
        try:
            self.assertIs(type(console.execute(line)), str)
            self.assertTrue(kind, line)
        except InvalidCommand as error:
            self.assertEqual((kind, error.value), (False, line))
        except (WorkError, UnknownTask, NotHeld):
            self.assertTrue(kind, line)


if __name__ == "__main__":
    unittest.main()
