"""The examples of the document, as they stand in it."""

import doctest
import unittest

PLANS = """
>>> from wantedwork.plans import Plan, Program
>>> fib = Plan(('n',), (('if', ('less', 1, 'n'), 3), ('call', 'x', 'fib', (('minus', 'n', 1),)), ('call', 'y', 'fib', (('minus', 'n', 2),)), ('wait', 2, ('x', 'y'))), ('plus', ('times', 'n', ('less', 'n', 2)), ('plus', 'x', 'y')))
>>> program = Program({'fib': fib})
>>> (program.is_determinate, len(program), program['fib'].arguments, program | program == program)
(True, 1, ('n',), True)
"""

LANGUAGE = r"""
>>> from wantedwork.language import format_expression, parse_expression, parse_program
>>> (format_expression(('times', ('plus', 'a', 2), ('minus', 'b', ('minus', 1, 'c')))), parse_expression('a - (b) - 1 < known x'))
('(a + 2) * (b - (1 - c))', ('less', ('minus', ('minus', 'a', 'b'), 1), ('known', 'x')))
>>> program = parse_program('plan sum n\n  s = 0\n  i = 0\n  while i < n\n    i = i + 1\n    s = s + i\nresult s')
>>> program['sum'].body
(('set', 's', 0), ('set', 'i', 0), ('while', ('less', 'i', 'n'), 2), ('set', 'i', ('plus', 'i', 1)), ('set', 's', ('plus', 's', 'i')))
"""

POLICIES = r"""
>>> from wantedwork.hubs import Hub
>>> from wantedwork.language import parse_program
>>> program = parse_program('plan add a b\n  work 3\nresult a + b\nmust twice\n  call x add(1, 2)\n  wait 1 of x\n  say hello\nresult 2 * x')
>>> hub = Hub(program)
>>> key = hub.ask('ann', 'twice')
>>> (hub.run(100), hub.result_of(key), hub.tasks, hub.effects, hub.clock)
(6, 6, [('twice', ()), ('add', (1, 2))], [(('twice', ()), 'hello')], 7)
>>> other = hub.ask('bob', 'add', 5, 5)
>>> (hub.tick(), hub.state(other), hub.drop('bob', other), hub.tick(), hub.rest(other), other in hub)
(('add', (5, 5)), 'ready', None, None, 1, True)
"""

COSTS = r"""
>>> from wantedwork.hubs import Hub
>>> from wantedwork.language import parse_program
>>> hub = Hub(parse_program('must job\n  work 5\n  work 4\n  work 2\nresult 0'))
>>> job = hub.ask('ann', 'job')
>>> done = hub.tick(), hub.ask('bob', 'job'), hub.tick(), hub.drop('ann', job), hub.drop('bob', job), hub.run(9)
>>> (hub.cost, hub.shares, hub.state(job))
(11, {'ann': (7, 1), 'bob': (2, 1), None: (2, 1)}, 'done')
"""

URGENCY = r"""
>>> from wantedwork.hubs import Hub
>>> from wantedwork.language import parse_program
>>> from wantedwork.urging import are_bounds, urgency, urgency_chain
>>> from wantedwork.wanting import chain, is_cut, paused, users_of
>>> hub = Hub(parse_program('plan part\n  work 4\nresult 1\nplan whole\n  call x part()\n  wait 1 of x\nresult x'))
>>> whole, part = hub.ask('ann', 'whole', urgency=3), hub.ask('bob', 'part', urgency=1)
>>> hub.pick(whole)
>>> (urgency(hub, part), urgency_chain(hub, part), users_of(hub, part), are_bounds(hub, {whole: 3, part: 3}))
(3, ['ann', ('whole', ()), ('part', ())], ['ann', 'bob'], True)
>>> hub.drop('ann', whole)
>>> (paused(hub), is_cut(hub, [whole]), chain(hub, part), chain(hub, whole))
([('whole', ())], True, ['bob', ('part', ())], None)
"""

STUCK = r"""
>>> from wantedwork.hubs import Hub
>>> from wantedwork.language import parse_program
>>> from wantedwork.stopping import is_stuck_set, ring, stuck
>>> hub = Hub(parse_program('plan left\n  call x right()\n  wait 1 of x\nresult x\nplan right\n  call x left()\n  catch x\nresult reason x'))
>>> key = hub.ask('ann', 'left')
>>> (hub.run(100), stuck(hub), ring(hub), is_stuck_set(hub, [key]))
(2, [('left', ()), ('right', ())], [('left', ()), ('right', ())], False)
"""

DIRECT = r"""
>>> from wantedwork.directly import needed, outcome_of
>>> from wantedwork.language import parse_program
>>> program = parse_program('plan fib n\n  if 1 < n\n    call x fib(n - 1)\n    call y fib(n - 2)\n    wait 2 of x, y\nresult n * (n < 2) + x + y\nplan safe\n  call x bad()\n  catch x\nresult reason x + 1\nplan bad\n  fail 7\nresult 0')
>>> (outcome_of(program, 'fib', 50), needed(program, 'fib', 2), outcome_of(program, 'safe'))
(('done', 586268941), [('fib', (2,)), ('fib', (1,)), ('fib', (0,))], ('done', 8))
"""

CREWS = r"""
>>> from wantedwork.crews import Crew
>>> from wantedwork.hubs import Hub
>>> from wantedwork.language import parse_program
>>> hub = Hub(parse_program('plan one\n  work 1\nresult 1\nplan two\n  work 2\nresult 2'))
>>> one, two = hub.ask('ann', 'one'), hub.ask('ann', 'two')
>>> crew = Crew(hub, 3)
>>> (crew.begin(0), crew.begin(1), crew.begin(2), crew.crash(0), crew.begin(2), crew.finish(1), crew.leases())
(('one', ()), ('two', ()), None, None, ('one', ()), ('two', ()), {2: ('one', ())})
"""

LOGS = r"""
>>> from wantedwork.hubs import Hub
>>> from wantedwork.language import parse_program
>>> from wantedwork.logs import journal, recovered
>>> program = parse_program('plan a\n  work 1\nresult 1')
>>> hub = Hub(program)
>>> key, step = hub.ask('b', 'a', urgency=2), hub.tick()
>>> (journal(hub), recovered(program, journal(hub)[:-1]) == (hub, 2), recovered(program, journal(hub)[:-1])[1])
('0 ask b 2 a() #2374\n1 tick oldest #2069\n', False, 1)
"""

CONSOLE = r"""
>>> from wantedwork.console import Console
>>> from wantedwork.language import format_program, parse_program
>>> program = parse_program('must add a b\n  work 3\n  say sum\nresult a + b')
>>> console = Console(program)
>>> [console.execute(line) for line in ('ask ann 2 add(1,2)', 'tick fair', 'why add(1,2)', 'drop ann add(1,2)', 'why add(1,2)', 'run 9 oldest', 'result add(1,2)', 'cost', 'effects')]
['add(1,2)', 'add(1,2)', 'ann add(1,2)', 'ok', '- add(1,2)', '2', '3', '3 ann=3/1', 'add(1,2):sum']
>>> format_program(program)
'must add a b\n  work 3\n  say sum\nresult a + b'
"""

EXAMPLES = {
    "plans": PLANS,
    "language": LANGUAGE,
    "policies": POLICIES,
    "urgency": URGENCY,
    "costs": COSTS,
    "stuck": STUCK,
    "direct": DIRECT,
    "crews": CREWS,
    "logs": LOGS,
    "console": CONSOLE,
}


class ExamplesTest(unittest.TestCase):
    def test_examples(self):
        for name, text in EXAMPLES.items():
            with self.subTest(name):
                told = []
                example = doctest.DocTestParser().get_doctest(text, {}, name, None, 0)
                results = doctest.DocTestRunner(verbose=False).run(example, out=told.append)
                self.assertGreater(results.attempted, 3)
                self.assertEqual(results.failed, 0, "".join(told))


if __name__ == "__main__":
    unittest.main()
