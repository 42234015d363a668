"""Journals, and hubs that are recovered from them, also if they are damaged."""

import unittest
from random import Random

import slow_journals
from observing import Contrary, NO_INTEGERS, seen
from pairs import Pair
from slow_journals import line_of
from wantedwork.errors import InvalidNumber, InvalidProgram, InvalidText
from wantedwork.hubs import Hub
from wantedwork.language import parse_program
from wantedwork.logs import journal, recovered, replayed

PROGRAM = parse_program("""plan job n
  work 1
  work 2
result n
plan none
  work 1
result 0
plan add a b
result a + b
plan volume a b c
  call x job(a)
  wait 1 of x
result x
plan row n
  call x row(n + 1)
result 0
plan tick
result 0
plan ask ask
result ask""")
NONE, ADD, VOLUME = ("none", ()), ("add", (1, 1000000006)), ("volume", (0, 10, 200))
LOG = [
    ("ask", "ann", "none", (), 0),
    ("ask", "bob", "add", (1, 1000000006), 9),
    ("ask", "cleo", "volume", (0, 10, 200), 5),
    ("tick", "oldest"),
    ("tick", "newest"),
    ("pass", "bob", "ann", ADD),
    ("pick", ADD),
    ("drop", "cleo", VOLUME),
    ("tick", "urgent"),
    ("tick", "fair"),
    ("ask", "tick", "tick", (), 1),
    ("ask", "ask", "ask", (7,), 1),
]
WORDS = [
    "ask ann 0 none()",
    "ask bob 9 add(1,1000000006)",
    "ask cleo 5 volume(0,10,200)",
    "tick oldest",
    "tick newest",
    "pass bob ann add(1,1000000006)",
    "pick add(1,1000000006)",
    "drop cleo volume(0,10,200)",
    "tick urgent",
    "tick fair",
    "ask tick 1 tick()",
    "ask ask 1 ask(7)",
]
LINES = [line_of(number, words) for number, words in enumerate(WORDS)]

# The characters of the journals, and some that stand in none.
CHARACTERS = "0123456789abcdefghijklmnopqrstuvwxyz(), #\nAZ-._~!"


def text_of(lines):
    return "".join(line + "\n" for line in lines)


class JournalTest(unittest.TestCase):
    def test_each_deed(self):
        self.assertEqual(journal(replayed(PROGRAM, LOG)), text_of(LINES))

    def test_sums_by_hand(self):
        hub = Hub(parse_program("plan a\nresult 0"))
        hub.tick("fair")
        # "0 tick fair": 0, 39, 29, 18, 12, 20, 39, 15, 10, 18, 27, at the places 1 to 11
        total = 2 * 39 + 3 * 29 + 4 * 18 + 5 * 12 + 6 * 20 + 7 * 39 + 8 * 15 + 9 * 10 + 10 * 18 + 11 * 27
        self.assertEqual(journal(hub), f"0 tick fair #{total}\n")
        hub.ask("z", "a", urgency=9)
        # "1 ask z 9 a()": 1, 39, 10, 28, 20, 39, 35, 39, 9, 39, 10, 36, 37
        counts = (1, 39, 10, 28, 20, 39, 35, 39, 9, 39, 10, 36, 37)
        total = sum((place + 1) * count for place, count in enumerate(counts))
        self.assertEqual(journal(hub), journal(hub).split("\n")[0] + f"\n1 ask z 9 a() #{total}\n")

    def test_sums_are_less_than_9973(self):
        hub = replayed(PROGRAM, [("ask", "zzzzzzzz", "volume", (999999999, 999999999, 999999998), 0)])
        text = "0 ask zzzzzzzz 0 volume(999999999,999999999,999999998)"
        total = sum((place + 1) * slow_journals.COUNTED.index(sign) for place, sign in enumerate(text))
        self.assertGreater(total, 2 * 9973)
        self.assertEqual(journal(hub), f"{text} #{total % 9973}\n")

    def test_without_deeds(self):
        self.assertEqual(journal(Hub(PROGRAM)), "")

    def test_it_changes_nothing(self):
        hub = replayed(PROGRAM, LOG)
        before = seen(hub)
        journal(hub=hub)
        self.assertEqual(seen(hub), before)

    def test_many_lines(self):
        hub = Hub(PROGRAM)
        for _ in range(12345):
            hub.tick()
        lines = journal(hub).split("\n")
        self.assertEqual((len(lines), lines[12344]), (12346, line_of(12344, "tick oldest")))
        self.assertEqual(recovered(PROGRAM, journal(hub)), (hub, 12345))


class RecoveredTest(unittest.TestCase):
    def assert_recovered(self, text, count, log=None):
        """Check that so many lines are right, which have led to the deeds of a log."""
        hub, found = recovered(PROGRAM, text)
        self.assertIs(type(hub), Hub)
        self.assertEqual((found, hub.log), (count, (LOG if log is None else log)[:count]), text)
        self.assertIs(replayed(PROGRAM, hub.log) == hub, True)
        self.assertEqual(seen(replayed(PROGRAM, hub.log)), seen(hub))

    def test_the_whole(self):
        hub = replayed(PROGRAM, LOG)
        found = recovered(PROGRAM, journal(hub))
        self.assertIs(type(found), tuple)
        self.assertEqual((found[0] == hub, seen(found[0]), found[1]), (True, seen(hub), len(LOG)))

    def test_each_beginning_of_the_text(self):
        text = text_of(LINES)
        for length in range(len(text) + 1):
            self.assert_recovered(text[:length], text[:length].count("\n"))

    def test_without_the_last_line_feed(self):
        self.assert_recovered(text_of(LINES)[:-1], len(LINES) - 1)
        self.assert_recovered(LINES[0], 0)
        self.assert_recovered(LINES[0] + "\n" + LINES[1], 1)

    def test_an_empty_text_and_line_feeds_alone(self):
        for text in ("", "\n", "\n\n\n", "\n" + text_of(LINES), " ", " \n", "#", "#\n", " #\n", " #0\n", "0\n", "0 \n", "0  #0\n",
                     "0 #0\n"):
            self.assert_recovered(text, 0)

    def test_an_empty_line(self):
        for at in range(len(LINES) + 1):
            self.assert_recovered(text_of(LINES[:at] + [""] + LINES[at:]), at)

    def test_lines_left_out_doubled_or_exchanged(self):
        for at in range(len(LINES) - 1):
            self.assert_recovered(text_of(LINES[:at] + LINES[at + 1:]), at)
            self.assert_recovered(text_of(LINES[:at + 1] + LINES[at:]), at + 1)
            self.assert_recovered(text_of(LINES[:at] + [LINES[at + 1], LINES[at]] + LINES[at + 2:]), at)

    def test_all_but_the_number(self):
        for number in (0, 1, 2, 4, 5, 10, 33):
            self.assert_recovered(text_of(LINES[:3] + [line_of(number, WORDS[3])] + LINES[4:]), 3)
        for number in ("03", "+3", "3 ", " 3", "", "-3", "3.0", "three", "3,"):
            text = f"{number} tick oldest"
            if all(sign in slow_journals.COUNTED for sign in text):
                text = f"{text} #{slow_journals.sum_of(text)}"
            else:
                text = f"{text} #{LINES[3].split('#')[1]}"
            self.assert_recovered(text_of(LINES[:3] + [text] + LINES[4:]), 3)

    def test_all_but_the_sum(self):
        for at, line in enumerate(LINES):
            text, total = line.split("#")
            for wrong in (str(int(total) + 1), str(int(total) - 1), "0" + total, " " + total, total + " ", "", str(int(total) + 9973),
                          str(int(total) - 9973), "+" + total, total + "#", "#" + total, total + "0", total[:-1], total[1:]):
                self.assert_recovered(text_of(LINES[:at] + [f"{text}#{wrong}"] + LINES[at + 1:]), at)
            self.assert_recovered(text_of(LINES[:at] + [text + total] + LINES[at + 1:]), at)
            self.assert_recovered(text_of(LINES[:at] + [text[:-1]] + LINES[at + 1:]), at)
            self.assert_recovered(text_of(LINES[:at] + [text[:-1] + "#" + total] + LINES[at + 1:]), at)

    def test_spaces(self):
        for at, line in enumerate(LINES):
            for place in range(len(line) + 1):
                self.assert_recovered(text_of(LINES[:at] + [line[:place] + " " + line[place:]] + LINES[at + 1:]), at)

    def test_spaces_with_the_right_sum(self):
        for words in ("ask ann  0 none()", " ask ann 0 none()", "ask ann 0 none() ", "ask ann 0 none( )", "ask ann 0 none ()",
                      "ask bob 9 add(1, 2)", "ask bob 9 add( 1,2)", "ask bob 9 add(1,2 )", "tick  oldest", "tick oldest "):
            self.assert_recovered(line_of(0, words) + "\n", 0)

    def test_leading_zeros_with_the_right_sum(self):
        for words in ("ask ann 00 none()", "ask bob 09 add(1,2)", "ask bob 9 add(01,2)", "ask bob 9 add(1,02)",
                      "ask bob 9 add(00,2)", "ask bob 9 add(0000000001,2)"):
            self.assert_recovered(line_of(0, words) + "\n", 0)
        self.assert_recovered(line_of(0, "ask bob 9 add(0,2)") + "\n", 1, [("ask", "bob", "add", (0, 2), 9)])

    def test_other_words_with_the_right_sum(self):
        for words in ("", "tick", "tick oldest oldest", "tick old", "tick old est", "pick", "pick none", "pick none()", "pick none() 1",
                      "drop ann", "drop ann none()", "drop none()", "pass ann bob none()", "pass ann none()", "ask ann none()",
                      "ask ann none() 0", "ask ann 0 none", "ask ann 0 none(", "ask ann 0 none)", "ask ann 0 none()(",
                      "ask ann 0 none())", "ask ann 0 none(())", "ask ann 0 none(,)", "ask ann 0 none(1)", "ask ann 0 no()",
                      "ask ann 0 (1)", "ask ann 0 ()", "ask ann 0 add(1)", "ask ann 0 add(1,2,3)", "ask ann 0 add(1,2,)",
                      "ask ann 0 add(,1,2)", "ask ann 0 add(1,,2)", "ask ann 0 add(a,b)", "ask ann 0 volume(1,2,3,4)",
                      "ask ann 10 none()", "ask ann a none()", "ask ann  none()", "ask 1 0 none()", "ask ninechars 0 none()",
                      "ask  0 none()", "run 1 oldest", "state none()", "idle", "step none()", "ask ann 0 add(1,1000000007)",
                      "ask ann 0 add(1,99999999999)", "ask ann 0 add(1,10000000060000000000000000000)", "0 ask ann 0 none()",
                      "ask ann 0 add(1 2)", "ask ann 0 job(" + "1" * 5000 + ")"):
            self.assert_recovered(line_of(0, words) + "\n", 0)

    def test_a_right_line_for_a_deed_that_cannot_be_done_then(self):
        for words in ("drop bob none()", "drop ann job(1)", "pass bob ann none()", "pick job(1)", "pick add(1,1000000006)",
                      "ask ann 0 none(1)"):
            done = [("ask", "ann", "none", (), 0), ("ask", "bob", "add", (1, 1000000006), 9), ("drop", "bob", ADD)]
            lines = [LINES[0], LINES[1], line_of(2, "drop bob add(1,1000000006)")]
            self.assert_recovered(text_of(lines), 3, done)
            self.assert_recovered(text_of(lines + [line_of(3, words), line_of(4, "tick oldest")]), 3, done)

    def test_one_exchanged_character(self):
        text = text_of(LINES)
        for place, right in enumerate(text):
            for sign in CHARACTERS:
                if sign != right:
                    line = text[:place].count("\n")
                    self.assert_recovered(text[:place] + sign + text[place + 1:], line)

    def test_what_stands_behind_a_wrong_line_does_not_count(self):
        self.assert_recovered(text_of(["0 tick oldest #1"] + LINES), 0)
        self.assert_recovered(text_of(LINES[:2] + ["?"] + [line_of(3, "tick oldest"), line_of(2, "tick oldest")]), 2)

    def test_values_that_are_no_texts(self):
        for value in (None, 0, True, b"", b"0 tick fair #1377\n", [], ["0"], (), {}, {"a"}, 1.5, object(), Contrary(), str):
            with self.assertRaises(InvalidText) as caught:
                recovered(PROGRAM, value)
            self.assertIsNone(caught.exception.line)

    def test_the_order_of_errors(self):
        for program in (None, {}, "plan a\nresult 0", Contrary()):
            for patience in (1, None):
                for text in ("", None):
                    with self.assertRaises(InvalidProgram) as caught:
                        recovered(program, text, patience=patience)
                    self.assertIsNone(caught.exception.name)
        for patience in (-1, 1001) + NO_INTEGERS:
            for text in ("", None):
                with self.assertRaises(InvalidNumber) as caught:
                    recovered(PROGRAM, text, patience=patience)
                self.assertIs(caught.exception.value, patience)

    def test_the_patience(self):
        hub = Hub(PROGRAM, patience=0)
        hub.drop("ann", hub.ask("ann", "none"))
        hub.tick()
        text = journal(hub)
        self.assertEqual(recovered(PROGRAM, text, patience=0), (hub, 3))
        found = recovered(text=text, program=PROGRAM, patience=1)
        self.assertEqual((found[0].patience, len(found[0]), found[1]), (1, 1, 3))
        self.assertEqual((recovered(PROGRAM, text)[0].patience, recovered(PROGRAM, text)[0] == hub), (10, False))
        with self.assertRaises(TypeError):
            recovered(PROGRAM, text, 0)

    def test_more_than_500_tasks(self):
        words = [f"ask ann 0 job({number})" for number in range(501)]
        found = recovered(PROGRAM, text_of([line_of(number, text) for number, text in enumerate(words)]))
        self.assertEqual((found[1], len(found[0])), (500, 500))
        words = words[:499] + ["ask ann 0 row(1)", "tick oldest", "tick newest", "tick oldest"]
        found = recovered(PROGRAM, text_of([line_of(number, text) for number, text in enumerate(words)]))
        self.assertEqual((found[1], len(found[0]), found[0].clock), (501, 500, 1))


class DrawnTest(unittest.TestCase):
    def pair(self, seed, deeds):
        pair = Pair(self, seed)
        for _ in range(pair.random.randint(1, deeds)):
            pair.deed()
        return pair

    def test_the_hub_itself(self):
        for seed in range(200):
            hub = self.pair(seed, 80).hub
            found, count = recovered(hub.program, journal(hub), patience=hub.patience)
            self.assertEqual((found == hub, seen(found), count), (True, seen(hub), len(hub.log)))

    def test_the_text_is_that_of_the_slow_reading(self):
        for seed in range(200):
            hub = self.pair(seed, 80).hub
            found, count = slow_journals.recovered(hub.program, journal(hub), hub.patience)
            self.assertEqual((found == hub, count), (True, len(hub.log)))

    def test_damaged_ones(self):
        counts = {}
        for seed in range(300):
            pair = self.pair(seed, 40)
            text = journal(pair.hub)
            for _ in range(8):
                damaged = self.damaged(pair.random, text)
                found, count = recovered(pair.program, damaged, patience=pair.hub.patience)
                expected, right = slow_journals.recovered(pair.program, damaged, pair.hub.patience)
                self.assertEqual((count, found == expected, seen(found)), (right, True, seen(expected)), damaged)
                self.assertTrue(damaged.startswith(journal(found)))
                kind = "all" if count == damaged.count("\n") else "none" if count == 0 else "some"
                counts[kind] = counts.get(kind, 0) + 1
                counts["else"] = counts.get("else", 0) + (not text.startswith(journal(found)))
        self.assertGreater(min(counts.values()), 30, counts)
        self.assertEqual(len(counts), 4)

    def damaged(self, random, text):
        """Return a text with some damage, mostly of a kind that leaves other lines right."""
        lines, kind = text.split("\n")[:-1] or [""], random.randint(0, 5)
        at, place = random.randrange(len(lines)), random.randrange(len(text) + 1)
        if kind == 0:
            return text[:place] + random.choice(CHARACTERS) + text[place + 1:]
        if kind == 1:
            return text[:place]
        if kind == 2:
            return text[:place] + text[random.randrange(len(text) + 1):]
        if kind == 3:
            return text_of(lines[:at] + lines[at + 1:])
        words = [line.split(" ", 1)[-1].rsplit(" ", 1)[0] for line in lines]
        if kind == 4:
            words[at] = random.choice(words)
        else:
            words = words[:at] + words[at + 1:]
        return text_of([line_of(number, each) for number, each in enumerate(words)])


class ExchangedTest(unittest.TestCase):
    def test_a_line_with_one_character_exchanged_is_never_right(self):
        random = Random(3)
        for seed in range(60):
            pair = DrawnTest().pair(seed, 60)
            text = journal(pair.hub)
            for _ in range(40):
                place = random.randrange(len(text))
                sign = random.choice(CHARACTERS)
                if sign != text[place]:
                    damaged = text[:place] + sign + text[place + 1:]
                    self.assertEqual(recovered(pair.program, damaged, patience=pair.hub.patience)[1], text[:place].count("\n"))


if __name__ == "__main__":
    unittest.main()
