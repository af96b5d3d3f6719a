"""The examples of the document."""

import doctest
import unittest

HEIGHTS = """
>>> from slackstrings.samples import stick_man
>>> from slackstrings.scripts import Script
>>> puppet, hooks = stick_man(), {"B": 20, "F": 20, "H": 20}
>>> found = puppet.heights(hooks, {"a": 12, "b": 10, "c": 30})
>>> [str(found["body"]), str(found["hand"]), str(found["foot"]), puppet.taut(hooks, {"a": 12, "b": 10, "c": 30})]
['8', '10', '2', 'ab']
>>> [puppet.distance("hand", "foot"), puppet.distance("foot", "body"), puppet.has_way("H", "foot")]
[10, 6, True]
>>> script = Script(puppet, hooks, (("lift", "F", "foot"), ("move", "F", 5)))
>>> run = script.run({"a": 12, "b": 10, "c": 30})
>>> [str(run.hook(1, "F")), str(run.hook("last", "F")), str(run.height(1, "foot")), str(run.height("last", "foot"))]
['32', '37', '2', '7']
>>> [run.taut(0), run.taut(1), run.taut(2), str(run.height(2, "body")), len(run)]
['ab', 'abc', 'abc', '8', 3]
"""

ALL_LENGTHS = """
>>> from slackstrings.always import always, greatest, least
>>> from slackstrings.facts import Facts
>>> from slackstrings.forms import Form
>>> from slackstrings.samples import stick_man
>>> from slackstrings.scripts import Script
>>> from slackstrings.wishes import Wish
>>> script = Script(stick_man(), {"B": 20, "F": 20, "H": 20}, (("lift", "F", "foot"), ("move", "F", 5)))
>>> facts = Facts("abc", (Form(15, (("a", -1),)),))
>>> five_up = Wish.read("(and (over foot@last foot@0 5) (over foot@0 foot@last -5))")
>>> [always(script, facts, five_up), always(script, facts, Wish.read("(over body@0 floor 11/2)"))]
[True, False]
>>> [str(least(script, facts, ("part", "body", 0))), str(greatest(script, facts, ("part", "foot", 2))), greatest(script, facts, ("length", "b"))]
['5', '25', None]
"""

TWO_LINES = """
>>> from slackstrings.always import alike, tolerance
>>> from slackstrings.facts import Facts
>>> from slackstrings.forms import Form
>>> from slackstrings.samples import two_lines
>>> from slackstrings.scripts import Script
>>> from slackstrings.seen import Seen
>>> from slackstrings.spares import idle, least_sets
>>> from slackstrings.wishes import Wish
>>> start, facts = {"A": 10, "B": 10}, Facts("ab", (Form(4, (("a", -1),)), Form(-5, (("b", 1),))))
>>> still = Script(two_lines(), start)
>>> [idle(still, facts), least_sets(still, facts, Wish.read("(over load@0 floor 6)"))]
['b', ['a']]
>>> str(tolerance(still, facts, 0, Wish.read("(over load@0 floor 2)")))
'4'
>>> once = Script(two_lines(), start, (("move", "AB", 2),))
>>> alike(once, Script(two_lines(), start, (("move", "A", 2), ("move", "B", 2))), facts)
True
>>> free = Seen(still, Facts("ab"), ((0, "load", 7),))
>>> [str(free.least(("length", "a"))), free.greatest(("length", "a")), str(free.sure(("part", "load", "last"))), free.sure(("length", "b"))]
['3', None, '7', None]
"""

TEXTS = """
>>> from slackstrings.forms import Form
>>> from slackstrings.wishes import Wish
>>> str(Wish(("not", ("over", ("part", "foot", 2), ("length", "a"), (-3, 2)))))
'(not (over foot@2 a -3/2))'
>>> [str(Form(20, (("a", -1),))), str(Form(0, (("a", -1), ("b", 2)))), str(Form())]
['20 - a', '-a + 2 b', '0']
"""


class ExamplesTest(unittest.TestCase):

    def test_examples(self):
        for name, text in (("heights", HEIGHTS), ("all lengths", ALL_LENGTHS), ("lines", TWO_LINES), ("texts", TEXTS)):
            examples = doctest.DocTestParser().get_doctest(text, {}, name, name, 0)
            found = doctest.DocTestRunner().run(examples)
            self.assertEqual(found.failed, 0, name)
            self.assertGreater(found.attempted, 2)
