"""The language of plans."""

import unittest
from random import Random

from generating import random_expression
from observing import Contrary
from wantedwork.errors import InvalidText
from wantedwork.language import format_expression, format_program, parse_expression, parse_program
from wantedwork.plans import Plan, Program

M = 1000000007
NO_TEXTS = (None, 0, 1, True, 1.5, b"a", ("a",), ["a"], {"a": 1}, object(), Contrary(), str)


def nested(depth):
    """Return an expression that is nested so deep, on its right side."""
    return 1 if depth == 1 else ("plus", 1, nested(depth - 1))


def pairs(text):
    """Return the indexes of all parentheses that belong together."""
    found, begun = [], []
    for at, character in enumerate(text):
        if character == "(":
            begun.append(at)
        if character == ")":
            found.append((begun.pop(), at))
    return found


class ExpressionCase(unittest.TestCase):
    def assert_no_expression(self, value):
        with self.assertRaises(InvalidText) as caught:
            parse_expression(value)
        self.assertIsNone(caught.exception.line)

    def assert_both_ways(self, expression, text):
        self.assertEqual(format_expression(expression), text)
        self.assertEqual(parse_expression(text), expression)


class FormatExpressionTest(ExpressionCase):
    def test_leaves(self):
        for expression, text in ((0, "0"), (M - 1, "1000000006"), ("a", "a"), ("abcdefgh", "abcdefgh"),
                                 (("known", "x"), "known x"), (("reason", "why"), "reason why"), ("known", "known"),
                                 ("reason", "reason"), (("known", "known"), "known known"), ("plus", "plus"),
                                 (("reason", "known"), "reason known")):
            self.assert_both_ways(expression, text)

    def test_signs(self):
        for operation, sign in (("plus", "+"), ("minus", "-"), ("times", "*"), ("less", "<"), ("same", "==")):
            self.assert_both_ways((operation, "a", 1), f"a {sign} 1")
            self.assert_both_ways((operation, ("known", "a"), "known"), f"known a {sign} known")
            self.assert_both_ways((operation, "reason", ("reason", "b")), f"reason {sign} reason b")

    def test_strengths_and_parentheses(self):
        strong = {"times": 3, "plus": 2, "minus": 2, "less": 1, "same": 1}
        signs = {"plus": "+", "minus": "-", "times": "*", "less": "<", "same": "=="}
        for outer in strong:
            for inner in strong:
                left = f"a {signs[inner]} b"
                if strong[inner] < strong[outer]:
                    left = f"({left})"
                self.assert_both_ways((outer, (inner, "a", "b"), "c"), f"{left} {signs[outer]} c")
                right = f"b {signs[inner]} c"
                if strong[inner] <= strong[outer]:
                    right = f"({right})"
                self.assert_both_ways((outer, "a", (inner, "b", "c")), f"a {signs[outer]} {right}")

    def test_example_of_each_kind(self):
        for expression, text in (
            (("plus", "a", ("plus", "b", "c")), "a + (b + c)"),
            (("plus", ("plus", "a", "b"), "c"), "a + b + c"),
            (("less", ("plus", "a", 1), ("times", "b", 2)), "a + 1 < b * 2"),
            (("same", ("less", "a", "b"), ("same", "c", "d")), "a < b == (c == d)"),
            (("times", ("times", "a", "b"), ("times", "c", "d")), "a * b * (c * d)"),
            (("minus", ("times", "a", ("minus", "b", "c")), ("times", "d", "e")), "a * (b - c) - d * e"),
            (nested(6), "1 + (1 + (1 + (1 + (1 + 1))))"),
        ):
            self.assert_both_ways(expression, text)

    def test_by_name(self):
        self.assertEqual(format_expression(expression=("plus", 1, 2)), "1 + 2")

    def test_no_parentheses_can_be_taken_away(self):
        random = Random(1)
        counted = 0
        for _ in range(2000):
            expression = random_expression(random, ("a", "plus"), ("x", "known", "reason"), 6)
            text = format_expression(expression)
            self.assertEqual(parse_expression(text), expression)
            for begin, end in pairs(text):
                counted += 1
                try:
                    other = parse_expression(text[:begin] + text[begin + 1:end] + text[end + 1:])
                except InvalidText:
                    # Then the text is nested too deep without them, which means something else, too.
                    continue
                self.assertNotEqual(other, expression)
        self.assertGreater(counted, 1000)

    def test_more_parentheses_may_be_read(self):
        random = Random(2)
        for _ in range(500):
            expression = random_expression(random, ("a",), ("x", "known"), 5)
            self.assertEqual(parse_expression(self.wrapped(random, expression)), expression)

    def wrapped(self, random, expression):
        """Return a text of an expression with parentheses in many places."""
        if isinstance(expression, tuple) and len(expression) == 3:
            sign = {"plus": "+", "minus": "-", "times": "*", "less": "<", "same": "=="}[expression[0]]
            text = f"({self.wrapped(random, expression[1])} {sign} {self.wrapped(random, expression[2])})"
        else:
            text = format_expression(expression)
        many = random.choice((0, 0, 1, 2))
        return "(" * many + text + ")" * many


class ParseExpressionTest(ExpressionCase):
    def test_numbers(self):
        for text in ("0", "7", "10", "999999999", "1000000006"):
            self.assertEqual(parse_expression(text), int(text))
        for text in ("00", "01", "007", "0000000000", "1000000007", "9999999999", "10000000000", "00000000001", "-1",
                     "+1", "1.0", "1_0", "0x1", "1e3"):
            self.assert_no_expression(text)

    def test_words(self):
        for text in ("a", "z", "abcdefgh", "known", "reason", "plus", "work", "if", "result"):
            self.assertEqual(parse_expression(text), text)
        for text in ("", "abcdefghi", "A", "aB", "a1", "1a", "a_b", "a.", "'a'"):
            self.assert_no_expression(text)

    def test_known_and_reason(self):
        self.assertEqual(parse_expression("known abcdefgh"), ("known", "abcdefgh"))
        self.assertEqual(parse_expression("(known x) * reason y"), ("times", ("known", "x"), ("reason", "y")))
        self.assertEqual(parse_expression("(known) + known"), ("plus", "known", "known"))
        self.assertEqual(parse_expression("knownx + unknown"), ("plus", "knownx", "unknown"))
        for text in ("known 1", "known (x)", "known x y", "known known x", "known abcdefghi", "known  x", "known X",
                     "known+x", "known,x", "reason-x", "known(x)", "known ", "reason + ", "unknown x", "knownx y", "known + x y", "a known x"):
            self.assert_no_expression(text)

    def test_spaces(self):
        for text in (" a", "a ", " ", "a+b", "a +b", "a+ b", "a  + b", "a +  b", "( a)", "(a )", "(a) ", "a<b", "a ==b",
                     "a\n+ b", "a\n", "\na", "a\t+ b", "a + b "):
            self.assert_no_expression(text)

    def test_other_texts(self):
        for text in ("+", "a +", "+ a", "a + + b", "a b", "()", "(", ")", "(a", "(a,", "(a]", "(a(", "(a + b,", "a)", "((a)", "(a))", "a + (b", "a = b",
                     "a > b", "a <= b", "a != b", "a / b", "a % b", "a ** b", "a == = b", "-a", "- a", "a, b", "a(b)",
                     "(a)(b)", "(a) b", "a === b", "1 2", "not a", "a & b", "a < = b"):
            self.assert_no_expression(text)

    def test_other_values(self):
        for value in NO_TEXTS:
            self.assert_no_expression(value)

    def test_left_to_right(self):
        self.assertEqual(parse_expression("a - b - c + d"), ("plus", ("minus", ("minus", "a", "b"), "c"), "d"))
        self.assertEqual(parse_expression("a == b < c"), ("less", ("same", "a", "b"), "c"))
        self.assertEqual(parse_expression("a * b * c"), ("times", ("times", "a", "b"), "c"))
        self.assertEqual(parse_expression("a - b * c - d"), ("minus", ("minus", "a", ("times", "b", "c")), "d"))
        self.assertEqual(parse_expression("a < b + c"), ("less", "a", ("plus", "b", "c")))

    def test_nested_at_most_six_deep(self):
        self.assertEqual(parse_expression("1 + (1 + (1 + (1 + (1 + 1))))"), nested(6))
        self.assert_no_expression("1 + (1 + (1 + (1 + (1 + (1 + 1)))))")
        self.assertEqual(parse_expression("a + b + c + d + e + f")[2], "f")
        self.assert_no_expression("a + b + c + d + e + f + g")
        self.assertEqual(parse_expression("a * (b + c + d + e + known f)")[2][2], ("known", "f"))
        self.assert_no_expression("a * (b + c + d + e + f + g)")
        self.assertEqual(parse_expression("known a + reason b + c + d + e + f")[2], "f")
        self.assert_no_expression("known a + reason b + c + d + e + f + g")
        self.assert_no_expression(" + ".join(["a"] * 10000))

    def test_twenty_parentheses_open_at_a_time(self):
        for many in (1, 6, 7, 19, 20):
            self.assertEqual(parse_expression("(" * many + "a" + ")" * many), "a")
        for many in (21, 22, 20000):
            self.assert_no_expression("(" * many + "a" + ")" * many)
        side = "(" * 20 + "a" + ")" * 20
        self.assertEqual(parse_expression(f"{side} + {side} + {side}"), ("plus", ("plus", "a", "a"), "a"))
        self.assertEqual(parse_expression(f"{side[1:-1]} + ({side[1:-1]} + a)"), ("plus", "a", ("plus", "a", "a")))
        self.assert_no_expression(f"a + ({side} + a)")
        self.assert_no_expression(f"{side} + ({side})")
        self.assert_no_expression(f"(a) + (a) + ({side})")

    def test_by_name(self):
        self.assertEqual(parse_expression(text="a + 1"), ("plus", "a", 1))


FULL = """plan all n m
  work 3
  v = n + 1
  call x none()
  call y all(n, m * 2)
  call z must(v < (m == 2), 0, known x)
  wait 2 of x, y
  catch z
  drop x
  say Hello  2 you
  if known v
    while v < 10
      v = v + 1
      if reason z
        fail v
    work 1000
  while 0
    drop y
result n * (v + m)
must must a b c
result a
plan none
result 0"""


class ProgramCase(unittest.TestCase):
    def assert_line(self, line, text):
        with self.assertRaises(InvalidText) as caught:
            parse_program(text)
        self.assertEqual(caught.exception.line, line, text)

    def body(self, *lines, arguments=" n"):
        text = "\n".join([f"plan p{arguments}"] + ["  " + line for line in lines] + ["result 0"])
        return parse_program(text)["p"].body

    def assert_instruction(self, line, instruction, before=()):
        body = self.body(*before, line)
        self.assertEqual(body[-1], instruction)
        program = Program({"p": Plan(("n",), body, 0)})
        self.assertEqual(format_program(program).split("\n")[-2], "  " + line)

    def assert_no_form(self, line):
        self.assert_line(1, f"plan p n\n  {line}\nresult 0")
        # It comes ahead of whatever else is wrong.
        self.assert_line(2, f"plan p n\n  work 0\n  {line}\nresult q")


class ProgramTest(ProgramCase):
    def test_all_forms_together(self):
        program = parse_program(FULL)
        plan = program["all"]
        self.assertEqual(program.names, ["all", "must", "none"])
        self.assertEqual([program[name].must_finish for name in program.names], [False, True, False])
        self.assertEqual([program[name].arguments for name in program.names], [("n", "m"), ("a", "b", "c"), ()])
        self.assertEqual(plan.body, (
            ("work", 3), ("set", "v", ("plus", "n", 1)), ("call", "x", "none", ()),
            ("call", "y", "all", ("n", ("times", "m", 2))),
            ("call", "z", "must", (("less", "v", ("same", "m", 2)), 0, ("known", "x"))),
            ("wait", 2, ("x", "y")), ("catch", ("z",)), ("drop", "x"), ("effect", "Hello  2 you"),
            ("if", ("known", "v"), 5), ("while", ("less", "v", 10), 3), ("set", "v", ("plus", "v", 1)),
            ("if", ("reason", "z"), 1), ("fail", "v"), ("work", 1000), ("while", 0, 1), ("drop", "y"),
        ))
        self.assertEqual(plan.result, ("times", "n", ("plus", "v", "m")))
        self.assertEqual(format_program(program), FULL)

    def test_plans_in_any_order(self):
        program = parse_program("plan b\nresult 1\nmust a x\nresult x\nplan c\nresult 2")
        self.assertEqual(program.names, ["a", "b", "c"])
        self.assertEqual(format_program(program), "must a x\nresult x\nplan b\nresult 1\nplan c\nresult 2")

    def test_each_name_once(self):
        self.assert_line(None, "plan a\nresult 1\nplan a\nresult 1")
        self.assert_line(None, "plan a\nresult 1\nplan b\nresult 1\nmust a\nresult 1")

    def test_by_name(self):
        program = parse_program(text="plan a\nresult 1")
        self.assertEqual(format_program(program=program), "plan a\nresult 1")

    def test_other_values(self):
        for value in NO_TEXTS:
            self.assert_line(None, value)

    def test_an_empty_line_has_no_form(self):
        self.assert_line(0, "")
        self.assert_line(0, "\n")
        self.assert_line(2, "plan a\nresult 1\n")
        self.assert_line(0, "\nplan a\nresult 1")
        self.assert_line(1, "plan a\n\nresult 1")
        self.assert_line(1, "plan a\n  \nresult 1")
        self.assert_line(2, "plan a\nresult 1\n\nplan b\nresult 1")

    def test_the_first_line_without_a_form(self):
        self.assert_line(1, "plan a\nwork 1\n  work\nresult 1")
        self.assert_line(3, "plan a\n  work 0\n      work 1\nno\nresult 1\nno")
        self.assert_line(0, "plan\nresult")
        self.assert_line(4, "result 1\nplan a\nplan a\n  drop x\nplan 1")

    def test_heads(self):
        for head in ("plan", "must"):
            self.assertEqual(parse_program(f"{head} plan plan must\nresult plan")["plan"].arguments, ("plan", "must"))
            for line in (head, head + " ", f"{head} a ", f"{head}  a", f"{head} a  b", f"{head} A", f"{head} abcdefghi",
                         f"{head} a b,", f"{head} a, b", f"{head} 1", f" {head} a", f"  {head} a", f"{head} a b 1",
                         f"{head}a", head.upper() + " a", f"{head} a = 1", f"{head} = 1", f"{head}: a"):
                self.assert_line(0, line + "\nresult 1")
            # Any words have the form, although they are not those of a plan.
            self.assert_line(None, f"{head} p a b c d\nresult 1")
            self.assert_line(None, f"{head} p a a\nresult 1")

    def test_results(self):
        for result in ("result", "result ", "result  1", "result 1 ", " result 1", "  result 1", "result = 1", "result 1,",
                       "result x y", "result 1000000007", "results 1", "result a + b + c + d + e + f + g", "result(1)"):
            self.assert_line(1, f"plan a\n{result}")
        self.assert_line(None, "plan a\nresult x")
        self.assert_line(None, "plan a\nresult known a")

    def test_indents(self):
        for indent in (0, 1, 3, 5, 101):
            self.assert_line(1, "plan a\n" + " " * indent + "work 1\nresult 1")
        for indent in (4, 6, 8, 100):
            self.assert_line(None, "plan a\n" + " " * indent + "work 1\nresult 1")
        self.assert_line(1, "plan a\n\twork 1\nresult 1")
        self.assert_line(2, "plan a\n  if 1\n   work 1\nresult 1")

    def test_lines_of_no_program(self):
        for text in ("plan a", "result 1", "  work 1", "plan a\n  work 1", "plan a\nplan b\nresult 1", "result 1\nplan a",
                     "plan a\nresult 1\nresult 1", "plan a\nresult 1\n  work 1", "  work 1\nplan a\nresult 1",
                     "plan a\nresult 1\nplan b", "plan a\nresult 1\n  work 1\nplan b\nresult 1",
                     "plan a\n  work 1\nplan b\n  work 1\nresult 1", "result a\nresult a", "  work 1\nresult 1",
                     "plan a b\nmust b\nplan c\nresult 0", "plan a\n  x = 1\nplan x\nplan c\nresult 0",
                     "plan a\nresult 1\n  work 1\nresult 1", "must a\nmust a\nresult 1"):
            self.assert_line(None, text)

    def test_blocks(self):
        for lines in (("  work 1", "    work 1"), ("  if 1",), ("  if 1", "  work 1"), ("  if 1", "      work 1"),
                      ("  if 1", "    if 1", "    work 1"), ("  while 1", "    work 1", "      work 1"),
                      ("  if 1", "    if 1", "      work 1", "        work 1"), ("  work 1", "  if 1"),
                      ("  if 1", "    work 1", "    while 1"), ("    work 1", "  work 1"), ("  if 1", "    if 1")):
            self.assert_line(None, "\n".join(("plan a",) + lines + ("result 1",)))

    def test_blocks_that_end_together(self):
        body = self.body("if 1", "  while 0", "    if n", "      work 1", "work 2", "while 0", "  work 3", "  if 0",
                         "    work 4")
        self.assertEqual([row[-1] for row in body], [3, 2, 1, 1, 2, 3, 3, 1, 4])
        text = format_program(Program({"p": Plan(("n",), body, 0)}))
        self.assertEqual(parse_program(text)["p"].body, body)
        indents = [len(line) - len(line.lstrip(" ")) for line in text.split("\n")]
        self.assertEqual(indents, [0, 2, 4, 6, 8, 2, 2, 4, 4, 6, 0])

    def test_deep_blocks(self):
        lines = ["  " * at + "if n" for at in range(23)] + ["  " * 23 + "work 1"]
        body = self.body(*lines)
        self.assertEqual([row[-1] for row in body], list(range(23, 0, -1)) + [1])
        text = format_program(Program({"p": Plan(("n",), body, 0)}))
        self.assertEqual(text.split("\n")[1:-1], ["  " + line for line in lines])

    def test_24_instructions_and_20_plans(self):
        self.assertEqual(len(self.body(*["work 1"] * 24)), 24)
        self.assert_line(None, "plan a\n" + "  work 1\n" * 25 + "result 0")
        names = [first + second for first in "abcd" for second in "abcde"]
        text = "\n".join([f"plan {name}\nresult 0" for name in names])
        self.assertEqual(format_program(parse_program(text)), text)
        self.assert_line(None, text + "\nplan zz\nresult 0")

    def test_texts_longer_than_40000_characters_are_read_back(self):
        long = "known x"
        for _ in range(5):
            long = f"({long}) - ({long})"
        expression = parse_expression(long)
        body = (("call", "x", "p", (1, 1, 1)),) + (("call", "x", "p", (expression,) * 3),) * 23
        program = Program({name: Plan(("a", "b", "c"), body, expression) for name in ("p", "q")})
        text = format_program(program)
        self.assertGreater(len(text), 40000)
        self.assertEqual(parse_program(text) == program, True)

    def test_calls_must_fit_the_program(self):
        self.assert_line(None, "plan a\n  call x b()\nresult 1")
        self.assert_line(None, "plan a\n  call x a(1)\nresult 1")
        self.assert_line(None, "plan a n\n  call x a()\nresult 1")


class LinesTest(ProgramCase):
    def test_work(self):
        self.assert_instruction("work 1", ("work", 1))
        self.assert_instruction("work 1000", ("work", 1000))
        for line in ("work", "work ", "work x", "work 01", "work -1", "work 1 ", "work  1", "work 1 1", "work 10000000000",
                     "work 00", "Work 1", "work1", "work 1.0", "work 1,"):
            self.assert_no_form(line)
        for line in ("work 0", "work 1001", "work 9999999999"):
            self.assert_line(None, f"plan p\n  {line}\nresult 0")

    def test_set(self):
        self.assert_instruction("v = n", ("set", "v", "n"))
        self.assert_instruction("v = n == 1", ("set", "v", ("same", "n", 1)))
        for line in ("v =", "v = ", "v=1", "v= 1", "v =1", "v  = 1", "v =  1", "v == 1", "v = = 1", "V = 1", "1 = 1", " = 1",
                     "= 1", "abcdefghi = 1", "v, w = 1", "v w = 1", "v = 1 = 1", "(v) = 1", "v := 1", "v = 1;", "v"):
            self.assert_no_form(line)
        self.assert_line(None, "plan p n\n  n = 1\nresult 0")
        self.assert_line(None, "plan p n\n  v = v\nresult 0")

    def test_a_set_of_any_word(self):
        for word in ("work", "fail", "call", "wait", "catch", "drop", "say", "if", "while", "plan", "must", "result",
                     "known", "reason", "of"):
            self.assert_instruction(f"{word} = 1", ("set", word, 1))
            self.assert_no_form(f"{word} = ")
            self.assert_no_form(f"{word} =")

    def test_fail(self):
        self.assert_instruction("fail n", ("fail", "n"))
        self.assert_instruction("fail 7 * (n + 1)", ("fail", ("times", 7, ("plus", "n", 1))))
        for line in ("fail", "fail ", "fail  1", "fail 1 ", "fail 1 1", "fail = ", "fail(1)"):
            self.assert_no_form(line)

    def test_call(self):
        self.assert_instruction("call x p(1)", ("call", "x", "p", (1,)))
        self.assert_instruction("call x p(n + 1)", ("call", "x", "p", (("plus", "n", 1),)))
        self.assert_instruction("call p p(n)", ("call", "p", "p", ("n",)))
        text = "plan p a b\n  call x p((a), ((b)) * (a + 1))\n  call call q()\nresult 0\nplan q\nresult 0"
        body = parse_program(text)["p"].body
        self.assertEqual(body, (("call", "x", "p", ("a", ("times", "b", ("plus", "a", 1)))), ("call", "call", "q", ())))
        for line in ("call", "call x", "call x p", "call x p(", "call x p)", "call p(1)", "call x p (1)", "call x p(1) ",
                     "call x p( 1)", "call x p(1 )", "call x p(1,2)", "call x p(1,  2)", "call x p(1 , 2)", "call x p(, 1)",
                     "call x p(1, )", "call x p(,)", "call x p( )", "call x p(1))", "call x p((1)", "call x P(1)",
                     "call X p(1)", "call x abcdefghi(1)", "call  x p(1)", "call x  p(1)", "call x, p(1)", "call x p(1)p",
                     "call x p(1)(1)", "call x p[1]", "call x p q(1)", "call x (1)", "call x p(1;2)"):
            self.assert_no_form(line)
        # Any number of expressions has the form.
        for expressions in ("", "1, 2", "1, 2, 3, 4", "1, 2, 3, 4, 5, 6, 7"):
            self.assert_line(None, f"plan p n\n  call x p({expressions})\nresult 0")
        self.assert_line(None, "plan p n\n  call n p(1)\nresult 0")

    def test_parentheses_of_calls_do_not_count(self):
        self.assertEqual(self.body("call x p(" + "(" * 20 + "n" + ")" * 20 + ")"), (("call", "x", "p", ("n",)),))
        self.assert_no_form("call x p(" + "(" * 21 + "n" + ")" * 21 + ")")

    def test_wait(self):
        calls = ("call x p(1)", "call y p(2)")
        self.assert_instruction("wait 1 of x", ("wait", 1, ("x",)), calls)
        self.assert_instruction("wait 2 of y, x", ("wait", 2, ("y", "x")), calls)
        for line in ("wait", "wait 1", "wait 1 of", "wait 1 of ", "wait of x", "wait x", "wait 1 x", "wait 1 of x,y",
                     "wait 1 of x y", "wait 1 of x, ", "wait 1 of x,", "wait 01 of x", "wait 1 of  x", "wait 1  of x",
                     "wait  1 of x", "wait 1 of x ", "wait 1 of X", "wait 1 of 1", "wait -1 of x", "wait a of x",
                     "wait 1 of x ,y", "wait 10000000000 of x", "wait 1 or x", "wait 1 of x,  y"):
            self.assert_no_form(line)
        for line in ("wait 0 of x", "wait 2 of x", "wait 9999999999 of x", "wait 1 of x, x", "wait 1 of n", "wait 1 of z",
                     "wait 1 of x, x, x, x, x, x, x"):
            self.assert_line(None, f"plan p n\n  call x p(1)\n  {line}\nresult 0")

    def test_catch(self):
        calls = ("call x p(1)", "call y p(2)")
        self.assert_instruction("catch x", ("catch", ("x",)), calls)
        self.assert_instruction("catch y, x", ("catch", ("y", "x")), calls)
        for line in ("catch", "catch ", "catch x,y", "catch x y", "catch x, ", "catch X", "catch 1", "catch  x", "catch x ",
                     "catch (x)", "catch 1 of x"):
            self.assert_no_form(line)
        self.assert_line(None, "plan p\n  catch x\nresult 0")

    def test_drop(self):
        self.assert_instruction("drop x", ("drop", "x"), ("call x p(1)",))
        for line in ("drop", "drop ", "drop x, y", "drop x y", "drop X", "drop 1", "drop  x", "drop x ", "drop abcdefghi"):
            self.assert_no_form(line)
        self.assert_line(None, "plan p\n  drop x\nresult 0")

    def test_say(self):
        for text in ("a", "Z9", "a  b", "x" * 20, "0", "say", "if"):
            self.assert_instruction(f"say {text}", ("effect", text))
        for line in ("say", "say ", "say  a", "say a ", "say a.", "say " + "x" * 21, "say a = b", "say a-b", "say 'a'",
                     "effect a", "Say a"):
            self.assert_no_form(line)

    def test_if_and_while(self):
        for name in ("if", "while"):
            self.assertEqual(self.body(f"{name} n", "  work 1"), ((name, "n", 1), ("work", 1)))
            self.assertEqual(self.body(f"{name} (n)", "  work 1"), ((name, "n", 1), ("work", 1)))
            for line in (name, name + " ", f"{name}  n", f"{name} n ", f"{name} n:", f"{name} = 1 = 1", f"{name} n = 1",
                         f"{name} n 1", f"{name}(n)", f"{name} not n"):
                self.assert_line(1, f"plan p n\n  {line}\n    work 1\nresult 0")
            self.assert_line(None, f"plan p\n  {name} v\n    v = 1\nresult 0")

    def test_other_lines(self):
        for line in ("no", "x", "1", "work 1  # more", "# no", "n", "plan p", "must p", "result 0", "else", "effect a",
                     "set v 1", "work 1; work 1", "()"):
            self.assert_no_form(line)


if __name__ == "__main__":
    unittest.main()
