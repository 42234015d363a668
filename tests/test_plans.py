"""Plans and programs."""

import unittest

from observing import Contrary, NO_INTEGERS, NO_WORDS, deep_tuple
from wantedwork.errors import InvalidName, InvalidPlan, InvalidProgram
from wantedwork.plans import Plan, Program

M = 1000000007
CALLS = (("call", "x", "p", ()), ("call", "y", "p", ()), ("call", "z", "p", ()))
MANY_CALLS = tuple(("call", word, "p", ()) for word in "abcdefg")


def nested(depth):
    """Return an expression that is nested so deep."""
    return 1 if depth == 1 else ("plus", 1, nested(depth - 1))


class PlanCase(unittest.TestCase):
    def assert_part(self, part, *values, **more):
        with self.assertRaises(InvalidPlan) as caught:
            Plan(*values, **more)
        self.assertEqual(caught.exception.part, part)
        self.assertIs(type(caught.exception.part), type(part))

    def assert_body(self, *body):
        self.assertEqual(Plan((), body, 0).body, body)

    def assert_invalid(self, *body, at=None):
        self.assert_part(len(body) - 1 if at is None else at, (), body, 0)


class ArgumentsTest(PlanCase):
    def test_none_to_three_different_words(self):
        for arguments in ((), ("n",), ("a", "bb"), ("abcdefgh", "b", "z"), [], ["n"], ["a", "b", "c"]):
            plan = Plan(arguments, (), 0)
            self.assertEqual(plan.arguments, tuple(arguments))
            self.assertIs(type(plan.arguments), tuple)

    def test_words_of_operations(self):
        plan = Plan(("plus", "known"), (("set", "less", "plus"),), ("plus", "known", ("known", "less")))
        self.assertEqual(plan.arguments, ("plus", "known"))

    def test_other_values(self):
        for arguments in (None, 1, "n", "", b"n", {"n": 1}, {"n"}, object(), Contrary(), ("a", "b", "c", "d"),
                          ("a", "a"), ["a", "b", "a"], iter(("a",)), (("a",),), [["a"]]):
            self.assert_part("arguments", arguments, (), 0)

    def test_other_words(self):
        for value in NO_WORDS:
            self.assert_part("arguments", (value,), (), 0)
            self.assert_part("arguments", ["a", value], (), 0)


class BodyTest(PlanCase):
    def test_up_to_24_instructions_in_lists_and_tuples(self):
        for length in (0, 1, 23, 24):
            self.assertEqual(Plan((), [("work", 1)] * length, 0).body, (("work", 1),) * length)
            self.assertEqual(Plan((), (("work", 1),) * length, 0).body, (("work", 1),) * length)
        self.assert_part("body", (), [("work", 1)] * 25, 0)
        self.assert_part("body", (), (("work", 1),) * 2000, 0)

    def test_other_values(self):
        for body in (None, 1, "", "work", b"", {}, {0: ("work", 1)}, set(), object(), iter(())):
            self.assert_part("body", (), body, 0)

    def test_no_instructions(self):
        for value in (None, 1, "work", (), ("work",), ("work", 1, 1), ["work", 1], ("rest", 1), (1, 1), (None, 1),
                      (("work",), 1), (["work"], 1), (Contrary(), 1), Contrary(), {"work": 1}, ("end",), ("say", "a")):
            self.assert_invalid(value)
            self.assert_invalid(("work", 1), value)

    def test_each_has_its_length(self):
        right = (("work", 1), ("set", "v", 1), ("fail", 1), ("call", "x", "p", ()), ("wait", 1, ("x",)),
                 ("catch", ("x",)), ("drop", "x"), ("effect", "a"), ("if", 1, 1), ("while", 1, 1))
        for instruction in right:
            before = (("call", "x", "p", ()),)
            self.assert_body(*before, instruction, ("work", 1))
            for wrong in (instruction[:-1], instruction + (1,), list(instruction), ("no",) + instruction[1:]):
                self.assert_invalid(*before, wrong, ("work", 1), at=1)

    def test_the_first_invalid_one_is_told(self):
        self.assert_invalid(("work", 1), ("work", 0), ("work", 0), at=1)
        self.assert_invalid(("work", 0), None, at=0)

    def test_work(self):
        for cost in (1, 2, 1000):
            self.assert_body(("work", cost))
        for cost in (0, -1, 1001, 10 ** 59, "n") + NO_INTEGERS:
            self.assert_invalid(("work", cost))

    def test_effect(self):
        for text in ("a", "Z", "0", "a b", "a  b", "x" * 20, "The 2 Ends", "9 z"):
            self.assert_body(("effect", text))
        for text in ("", " ", "a ", " a", "x" * 21, "a-b", "a.", "a\n", "a\tb", "say_it", "~", 1, None, b"a", ("a",)):
            self.assert_invalid(("effect", text))

    def test_characters(self):
        for code in range(ord(" "), ord("~") + 1):
            character = chr(code)
            for effect, word in ((character, character), (f"a{character}b", f"a{character}b")):
                if character.isalnum() or (character == " " and len(effect) > 1):
                    self.assert_body(("effect", effect))
                else:
                    self.assert_invalid(("effect", effect))
                if character.islower():
                    self.assert_body(("set", word, 1))
                else:
                    self.assert_invalid(("set", word, 1))

    def test_set_and_fail(self):
        self.assert_body(("set", "v", 1), ("fail", "v"), ("set", "v", ("plus", "v", 1)))
        for value in NO_WORDS:
            self.assert_invalid(("set", value, 1))
        self.assert_invalid(("set", "v", "v"))
        self.assert_invalid(("fail", "v"))
        self.assert_part(0, ("n",), (("set", "n", 1),), 0)

    def test_call(self):
        for expressions in ((), (1,), (1, 2), ("v", ("plus", 1, 2), M - 1)):
            self.assert_body(("set", "v", 1), ("call", "x", "p", expressions), ("call", "x", "p", expressions))
        self.assert_body(("call", "x", "x", ()))
        for expressions in ([], [1], None, 1, "n", (1, 1, 1, 1), ("x",), ((),), ([1],), {}, (True,)):
            self.assert_invalid(("call", "x", "p", expressions))
        for value in NO_WORDS:
            self.assert_invalid(("call", value, "p", ()))
            self.assert_invalid(("call", "x", value, ()))
        self.assert_part(0, ("n",), (("call", "n", "p", ()),), 0)
        # What a call names stands in its own expressions only behind another one.
        self.assert_body(("call", "x", "p", ()), ("call", "x", "p", ("x",)))

    def test_wait(self):
        for wait in (("wait", 1, ("x",)), ("wait", 3, ("z", "y", "x")), ("wait", 1, ("x", "z"))):
            self.assert_body(*CALLS, wait)
        self.assert_body(*MANY_CALLS, ("wait", 6, tuple("abcdef")))
        self.assert_invalid(*MANY_CALLS, ("wait", 6, tuple("abcdefg")))
        for wait in (("wait", 0, ("x",)), ("wait", 2, ("x",)), ("wait", 1, ()), ("wait", 0, ()), ("wait", 1, ["x"]),
                     ("wait", 1, "x"), ("wait", 1, ("x", "x")), ("wait", 1, ("x", "v")), ("wait", -1, ("x",))):
            self.assert_invalid(*CALLS, wait)
        for value in NO_INTEGERS:
            self.assert_invalid(*CALLS, ("wait", value, ("x",)))
        for value in NO_WORDS:
            self.assert_invalid(*CALLS, ("wait", 1, (value,)))

    def test_catch(self):
        for variables in (("x",), ("z", "x"), ("x", "y", "z")):
            self.assert_body(*CALLS, ("catch", variables))
        self.assert_body(*MANY_CALLS, ("catch", tuple("abcdef")))
        self.assert_invalid(*MANY_CALLS, ("catch", tuple("abcdefg")))
        for variables in ((), ["x"], "x", ("x", "x"), ("x", "v"), None, 1, {"x": 1}, (None,), (["x"],)):
            self.assert_invalid(*CALLS, ("catch", variables))

    def test_drop(self):
        self.assert_body(*CALLS, ("drop", "y"), ("drop", "y"))
        for variable in NO_WORDS + ("v", ("x",)):
            self.assert_invalid(*CALLS, ("drop", variable))

    def test_a_set_ties_nothing(self):
        for last in (("wait", 1, ("v",)), ("catch", ("v",)), ("drop", "v")):
            self.assert_invalid(("set", "v", 1), last)
            self.assert_invalid(("set", "v", 1), last, ("call", "v", "p", ()), at=1)
            self.assert_body(("call", "v", "p", ()), ("set", "v", 1), last)

    def test_arguments_are_no_variables(self):
        for body in ((("wait", 1, ("n",)),), (("catch", ("n",)),), (("drop", "n"),), (("fail", ("known", "n")),),
                     (("fail", ("reason", "n")),)):
            self.assert_part(0, ("n",), body, 0)

    def test_blocks_fit(self):
        for name in ("if", "while"):
            self.assert_body((name, 1, 1), ("work", 1))
            self.assert_body(*([(name, 1, 23)] + [("work", 1)] * 23))
            self.assert_invalid((name, 1, 0), ("work", 1), at=0)
            self.assert_invalid((name, 1, -1), ("work", 1), at=0)
            self.assert_invalid((name, 1, 2), ("work", 1), at=0)
            self.assert_invalid((name, 1, 1))
            for value in NO_INTEGERS:
                self.assert_invalid((name, 1, value), ("work", 1), at=0)

    def test_blocks_end_within_blocks(self):
        self.assert_body(("if", 1, 3), ("while", 1, 2), ("if", 1, 1), ("work", 1), ("work", 1))
        self.assert_body(("if", 1, 1), ("work", 1), ("if", 1, 2), ("work", 1), ("work", 1))
        self.assert_invalid(("if", 1, 3), ("while", 1, 3), ("if", 1, 1), ("work", 1), ("work", 1), at=1)
        self.assert_invalid(("if", 1, 1), ("while", 1, 1), ("work", 1), at=1)
        self.assert_invalid(("while", 1, 4), ("if", 1, 1), ("work", 1), ("if", 1, 2), ("work", 1), ("work", 1), at=3)
        self.assert_invalid(("if", 1, 5), ("while", 1, 3), ("if", 1, 1), ("work", 1), ("work", 1), at=0)
        # The room is that of the innermost block, not of one that ended.
        self.assert_body(("while", 1, 5), ("if", 1, 1), ("work", 1), ("if", 1, 2), ("work", 1), ("work", 1))

    def test_a_block_may_begin_with_what_is_set_in_it_only_behind_it(self):
        self.assert_invalid(("while", "v", 1), ("set", "v", 1), at=0)
        self.assert_body(("if", 0, 1), ("set", "v", 1), ("while", "v", 1), ("set", "v", "v"))


class ExpressionTest(PlanCase):
    def assert_result(self, result, body=(("set", "v", 1), ("call", "x", "p", ()))):
        self.assertEqual(Plan(("n",), body, result).result, result)

    def assert_no_result(self, result, body=(("set", "v", 1), ("call", "x", "p", ()))):
        self.assert_part("result", ("n",), body, result)

    def test_numbers(self):
        for number in (0, 1, M - 1):
            self.assert_result(number)
        for number in (-1, M, M + 1, 10 ** 59) + NO_INTEGERS:
            self.assert_no_result(number)

    def test_words(self):
        for word in ("n", "v", "x"):
            self.assert_result(word)
        for value in NO_WORDS[3:] + ("w", "known", "plus"):
            self.assert_no_result(value)

    def test_known_and_reason(self):
        for question in ("known", "reason"):
            for variable in ("v", "x"):
                self.assert_result((question, variable))
            for value in NO_WORDS + ("n", "w", 1, ("known", "v")):
                self.assert_no_result((question, value))
            self.assert_no_result((question,))
            self.assert_no_result((question + "n", "v"))
            self.assert_no_result((question, "v", "v"))
            self.assert_no_result([question, "v"])

    def test_operations(self):
        for operation in ("plus", "minus", "times", "less", "same"):
            self.assert_result((operation, "n", ("known", "x")))
            self.assert_no_result((operation, "n"))
            self.assert_no_result((operation, "v"))
            self.assert_no_result((operation, "n", 1, 1))
            self.assert_no_result((operation, "n", "w"))
            self.assert_no_result((operation, "w", "n"))
            self.assert_no_result([operation, "n", 1])
            self.assert_no_result((operation, True, 1))
        for operation in ("known", "reason", "and", "+", "", None, 1, ["plus"], Contrary()):
            self.assert_no_result((operation, "n", 1))
        for value in ((), ("plus",), (1, 2, 3), None, [], {}, Contrary(), (Contrary(), "v")):
            self.assert_no_result(value)

    def test_nested_six_deep(self):
        self.assert_result(nested(6))
        self.assert_no_result(nested(7))
        self.assert_result(("plus", nested(5), nested(5)))
        self.assert_no_result(("plus", nested(6), 1))
        leaf = ("known", "v")
        for _ in range(5):
            leaf = ("times", leaf, "n")
        self.assert_result(leaf)
        self.assert_no_result(("times", leaf, "n"))
        self.assert_no_result(deep_tuple())
        self.assert_invalid(("set", "v", nested(7)))

    def test_variables_stand_behind_what_names_them(self):
        for body in ((("set", "w", "v"), ("set", "v", 1)), (("set", "w", ("known", "v")), ("call", "v", "p", ()))):
            self.assert_part(0, (), body, 0)
        self.assert_result("w", (("if", 0, 1), ("set", "w", 1)))


class PlanTest(PlanCase):
    def test_the_order_of_errors(self):
        wrong = {"arguments": None, "body": None, "result": None, "must_finish": None}
        self.assert_part("arguments", wrong["arguments"], wrong["body"], wrong["result"], must_finish=None)
        self.assert_part("body", (), wrong["body"], wrong["result"], must_finish=None)
        self.assert_part(0, (), (None,), wrong["result"], must_finish=None)
        self.assert_part("result", (), (), wrong["result"], must_finish=None)
        self.assert_part("must_finish", (), (), 0, must_finish=None)

    def test_must_finish(self):
        self.assertIs(Plan((), (), 0).must_finish, False)
        self.assertIs(Plan((), (), 0, must_finish=False).must_finish, False)
        self.assertIs(Plan((), (), 0, must_finish=True).must_finish, True)
        for value in (0, 1, None, "", "True", (), [], Contrary()):
            self.assert_part("must_finish", (), (), 0, must_finish=value)
        with self.assertRaises(TypeError):
            Plan((), (), 0, True)

    def test_arguments_by_name(self):
        plan = Plan(must_finish=True, result="n", body=(("work", 1),), arguments=("n",))
        self.assertEqual((plan.arguments, plan.body, plan.result, plan.must_finish), (("n",), (("work", 1),), "n", True))

    def test_plans_never_change(self):
        arguments, body = ["n"], [("work", 1)]
        plan = Plan(arguments, body, 0)
        arguments.append("m")
        body.append(("work", 2))
        self.assertEqual((plan.arguments, plan.body), (("n",), (("work", 1),)))
        self.assertEqual((arguments, body), (["n", "m"], [("work", 1), ("work", 2)]))
        for name in ("arguments", "body", "result", "must_finish", "is_determinate"):
            with self.assertRaises(AttributeError):
                setattr(plan, name, getattr(plan, name))

    def test_is_determinate(self):
        self.assertIs(Plan((), (), 0).is_determinate, True)
        self.assertIs(Plan((), CALLS, 0).is_determinate, True)
        self.assertIs(Plan((), CALLS + (("wait", 3, ("x", "y", "z")), ("wait", 1, ("x",))), 0).is_determinate, True)
        self.assertIs(Plan((), CALLS + (("wait", 3, ("x", "y", "z")), ("wait", 1, ("x", "y"))), 0).is_determinate, False)
        self.assertIs(Plan((), CALLS + (("wait", 1, ("x", "y")), ("wait", 1, ("x",))), 0).is_determinate, False)
        self.assertIs(Plan((), CALLS + (("catch", ("x", "y")),), 0).is_determinate, True)

    def test_equality(self):
        plan = Plan(("n",), (("work", 1),), 0)
        self.assertIs(plan == Plan(["n"], [("work", 1)], 0, must_finish=False), True)
        others = (Plan(("m",), (("work", 1),), 0), Plan(("n",), (("work", 2),), 0), Plan(("n",), (("work", 1),), 1),
                  Plan(("n",), (("work", 1),), 0, must_finish=True), Plan((), (("work", 1),), 0))
        for other in others:
            self.assertIs(plan == other, False)
            self.assertIs(plan != other, True)
        for other in (None, 0, "plan", (("n",), (("work", 1),), 0), Program({"p": plan}), Contrary()):
            self.assertIs(plan == other, False)


PLAIN = Plan((), (), 0)
ONE = Plan(("n",), (), "n")


def names(number):
    """Return so many different words."""
    return [first + second for first in "abcde" for second in "abcde"][:number]


class ProgramTest(unittest.TestCase):
    def assert_name(self, name, plans):
        with self.assertRaises(InvalidProgram) as caught:
            Program(plans)
        self.assertEqual(caught.exception.name, name)

    def test_one_to_twenty_plans(self):
        for number in (1, 2, 19, 20):
            program = Program({name: PLAIN for name in names(number)})
            self.assertEqual((len(program), program.names), (number, names(number)))
        for number in (0, 21, 25):
            self.assert_name(None, {name: PLAIN for name in names(number)})

    def test_other_values(self):
        for value in (None, 1, "p", [], ["p"], [("p", PLAIN)], (), set(), PLAIN, Program({"p": PLAIN}), Contrary()):
            self.assert_name(None, value)
        for value in NO_WORDS:
            if type(value).__hash__ is not None:
                self.assert_name(None, {value: PLAIN})
                self.assert_name(None, {"p": PLAIN, value: PLAIN})
        for value in (None, 1, "p", (), {}, Program({"p": PLAIN}), Contrary(), Plan):
            self.assert_name(None, {"p": value})
            self.assert_name(None, {"p": PLAIN, "q": value})

    def test_calls_of_missing_plans(self):
        self.assert_name("p", {"p": Plan((), (("call", "x", "q", ()),), 0)})
        self.assert_name("b", {name: Plan((), (("call", "x", "q", ()),), 0) for name in ("d", "b", "c")})
        self.assert_name("b", {"c": Plan((), (("call", "x", "q", ()),), 0), "a": PLAIN,
                               "b": Plan((), (("call", "x", "a", (1,)),), 0)})
        self.assert_name("p", {"p": Plan((), (("call", "x", "p", ()), ("if", 0, 1), ("call", "x", "q", ())), 0)})
        # An error of a name comes behind the others.
        self.assert_name(None, {"a": Plan((), (("call", "x", "q", ()),), 0), "b": 0})

    def test_calls_with_other_numbers_of_arguments(self):
        three = Plan(("a", "b", "c"), (), 0)
        plans = {"none": PLAIN, "one": ONE, "three": three}
        for name, right in (("none", 0), ("one", 1), ("three", 3)):
            for number in range(4):
                plan = Plan((), (("call", "x", name, (1,) * number),), 0)
                if number == right:
                    self.assertEqual(len(Program({"p": plan, **plans})), 4)
                else:
                    self.assert_name("p", {"p": plan, **plans})

    def test_calls_of_itself(self):
        program = Program({"p": Plan(("n",), (("call", "x", "p", ("n",)),), 0)})
        self.assertEqual(program.names, ["p"])

    def test_names_are_ascending_and_new(self):
        program = Program({"c": PLAIN, "a": ONE, "b": PLAIN})
        self.assertEqual(program.names, ["a", "b", "c"])
        program.names.append("d")
        self.assertEqual(program.names, ["a", "b", "c"])
        self.assertIs(type(program.names), list)

    def test_programs_never_change(self):
        plans = {"p": PLAIN}
        program = Program(plans)
        plans["q"] = ONE
        self.assertEqual((program.names, len(program), list(plans)), (["p"], 1, ["p", "q"]))
        for name in ("names", "is_determinate"):
            with self.assertRaises(AttributeError):
                setattr(program, name, getattr(program, name))

    def test_plans_by_their_names(self):
        program = Program(plans={"p": PLAIN, "q": ONE})
        self.assertEqual((program["p"], program["q"]), (PLAIN, ONE))
        for value in NO_WORDS + ("r", "pp"):
            with self.assertRaises(InvalidName) as caught:
                program[value]
            self.assertIs(caught.exception.value, value)

    def test_is_determinate(self):
        some = Plan((), (("call", "x", "p", ()), ("call", "y", "p", ()), ("wait", 1, ("x", "y"))), 0)
        self.assertIs(Program({"p": PLAIN, "q": ONE}).is_determinate, True)
        self.assertIs(Program({"p": PLAIN, "q": some}).is_determinate, False)
        self.assertIs(Program({"p": some, "q": some}).is_determinate, False)

    def test_union(self):
        one, other = Program({"p": PLAIN, "q": ONE}), Program({"q": ONE, "a": PLAIN})
        union = one | other
        self.assertEqual((union.names, union["p"], union["q"], union["a"]), (["a", "p", "q"], PLAIN, ONE, PLAIN))
        self.assertEqual((one.names, other.names), (["p", "q"], ["a", "q"]))
        self.assertIs(one | one == one, True)
        self.assertIs(one | other == other | one, True)

    def test_union_of_different_plans(self):
        one = Program({"a": PLAIN, "b": PLAIN, "d": ONE, "c": PLAIN})
        other = Program({"d": PLAIN, "c": ONE, "a": PLAIN})
        for first, second in ((one, other), (other, one)):
            with self.assertRaises(InvalidName) as caught:
                first | second
            self.assertEqual(caught.exception.value, "c")

    def test_union_of_too_many(self):
        many = Program({name: PLAIN for name in names(20)})
        some = Program({name: PLAIN for name in names(12)})
        self.assertEqual(len(many | some), 20)
        with self.assertRaises(InvalidProgram) as caught:
            many | Program({"zz": PLAIN})
        self.assertIsNone(caught.exception.name)
        with self.assertRaises(InvalidName) as caught:
            many | Program({"zz": PLAIN, "bb": ONE})
        self.assertEqual(caught.exception.value, "bb")

    def test_union_with_other_values(self):
        for value in (None, 1, {"p": PLAIN}, PLAIN):
            with self.assertRaises(TypeError):
                Program({"p": PLAIN}) | value

    def test_equality(self):
        program = Program({"p": PLAIN, "q": ONE})
        self.assertIs(program == Program({"q": Plan(["n"], [], "n"), "p": PLAIN}), True)
        for other in (Program({"p": PLAIN}), Program({"p": PLAIN, "q": PLAIN}), Program({"p": PLAIN, "r": ONE})):
            self.assertIs(program == other, False)
            self.assertIs(program != other, True)
        for other in (None, 2, {"p": PLAIN, "q": ONE}, PLAIN, Contrary()):
            self.assertIs(program == other, False)


if __name__ == "__main__":
    unittest.main()
