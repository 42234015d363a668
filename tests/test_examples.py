"""The examples of the document that use the modules that are there, as they stand in it."""

import doctest
import unittest

PLANS = """
>>> from wantedwork.plans import Plan, Program
>>> fib = Plan(('n',), (('if', ('less', 1, 'n'), 3), ('call', 'x', 'fib', (('minus', 'n', 1),)), ('call', 'y', 'fib', (('minus', 'n', 2),)), ('wait', 2, ('x', 'y'))), ('plus', ('times', 'n', ('less', 'n', 2)), ('plus', 'x', 'y')))
>>> program = Program({'fib': fib})
>>> (program.is_determinate, len(program), program['fib'].arguments, program | program == program)
(True, 1, ('n',), True)
"""

LANGUAGE = r"""
>>> from wantedwork.language import format_expression, parse_expression, parse_program
>>> (format_expression(('times', ('plus', 'a', 2), ('minus', 'b', ('minus', 1, 'c')))), parse_expression('a - (b) - 1 < known x'))
('(a + 2) * (b - (1 - c))', ('less', ('minus', ('minus', 'a', 'b'), 1), ('known', 'x')))
>>> program = parse_program('plan sum n\n  s = 0\n  i = 0\n  while i < n\n    i = i + 1\n    s = s + i\nresult s')
>>> program['sum'].body
(('set', 's', 0), ('set', 'i', 0), ('while', ('less', 'i', 'n'), 2), ('set', 'i', ('plus', 'i', 1)), ('set', 's', ('plus', 's', 'i')))
"""

POLICIES = r"""
>>> from wantedwork.hubs import Hub
>>> from wantedwork.language import parse_program
>>> program = parse_program('plan add a b\n  work 3\nresult a + b\nmust twice\n  call x add(1, 2)\n  wait 1 of x\n  say hello\nresult 2 * x')
>>> hub = Hub(program)
>>> key = hub.ask('ann', 'twice')
>>> (hub.run(100), hub.result_of(key), hub.tasks, hub.effects, hub.clock)
(6, 6, [('twice', ()), ('add', (1, 2))], [(('twice', ()), 'hello')], 7)
>>> other = hub.ask('bob', 'add', 5, 5)
>>> (hub.tick(), hub.state(other), hub.drop('bob', other), hub.tick(), hub.rest(other), other in hub)
(('add', (5, 5)), 'ready', None, None, 1, True)
"""

COSTS = r"""
>>> from wantedwork.hubs import Hub
>>> from wantedwork.language import parse_program
>>> hub = Hub(parse_program('must job\n  work 5\n  work 4\n  work 2\nresult 0'))
>>> job = hub.ask('ann', 'job')
>>> done = hub.tick(), hub.ask('bob', 'job'), hub.tick(), hub.drop('ann', job), hub.drop('bob', job), hub.run(9)
>>> (hub.cost, hub.shares, hub.state(job))
(11, {'ann': (7, 1), 'bob': (2, 1), None: (2, 1)}, 'done')
"""

EXAMPLES = {"plans": PLANS, "language": LANGUAGE, "policies": POLICIES, "costs": COSTS}


class ExamplesTest(unittest.TestCase):
    def test_examples(self):
        for name, text in EXAMPLES.items():
            with self.subTest(name):
                told = []
                example = doctest.DocTestParser().get_doctest(text, {}, name, None, 0)
                results = doctest.DocTestRunner(verbose=False).run(example, out=told.append)
                self.assertGreater(results.attempted, 3)
                self.assertEqual(results.failed, 0, "".join(told))


if __name__ == "__main__":
    unittest.main()
