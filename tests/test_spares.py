"""Tests of slackstrings.spares."""

from itertools import combinations
from random import Random

from slackstrings.always import always, most_above
from slackstrings.errors import InvalidWish, NotAScript, NotAWish, NotFacts, OtherNames
from slackstrings.facts import Facts
from slackstrings.forms import Form
from slackstrings.puppets import Puppet
from slackstrings.samples import stick_man, two_lines
from slackstrings.scripts import Script
from slackstrings.seen import Seen
from slackstrings.spares import idle, least_sets
from slackstrings.wishes import Wish
from tests.cases import ErrorCase, Lengths, drawn_facts, drawn_puppet, drawn_script, drawn_wish
from tests.values import strange

START = {"A": 10, "B": 10}
LINES = Script(two_lines(), START)
LINE_FACTS = Facts("ab", (Form(4, (("a", -1),)), Form(-5, (("b", 1),))))
FREE = Facts("ab")
MAN = Script(stick_man(), {"B": 20, "F": 20, "H": 20})


def aside(script, names):
    """The script with the strings of these names led to a part that is tied to nothing; None if it cannot be done."""
    puppet = script.puppet
    strings = tuple((name, hook, "aside" if name in names else part) for name, hook, part in puppet.strings)
    other = Puppet((*puppet.parts, "aside"), puppet.ties, puppet.hooks, strings)
    if not all(move[0] == "move" or other.has_way(move[1], move[2]) for move in script.moves):
        return None
    return Script(other, script.start, script.moves)


def idle_by_hand(script, facts):
    """The names of the idle strings: without each of them no height can be above or below what it was."""
    whole = aside(script, "")
    found = ""
    for name in facts.names if len(facts.names) > 1 else "":
        other = aside(script, name)
        if other is not None and all(
                is_never_above(one, two, facts, script.puppet.parts, many)
                for many in range(len(script) + 1) for one, two in ((whole, other), (other, whole))):
            found += name
    return found


def is_never_above(script, other, facts, parts, many):
    """Whether after so many moves none of some parts is ever above its height in another script."""
    one, two = [Script(each.puppet, each.start, each.moves[:many]) for each in (script, other)]
    gaps = [most_above(one, two, facts, part) for part in parts]
    return all(gap is not None and gap.top <= 0 for gap in gaps)


def least_sets_by_hand(script, facts, wish):
    """The least sets, by looking at all sets."""
    enough = []
    for size in range(1, len(facts.names) + 1):
        for names in combinations(facts.names, size):
            other = aside(script, [name for name in facts.names if name not in names])
            if other is not None and always(other, facts, wish):
                enough.append({*names})
    least = [names for names in enough if not any(other < names for other in enough)]
    return sorted(("".join(sorted(names)) for names in least), key=lambda names: (len(names), names))


class DrawnTest(ErrorCase):

    def drawn(self, random, strings=4, hauls=2):
        script = drawn_script(random, drawn_puppet(random, 3, strings, 3), 4, hauls)
        return script, drawn_facts(random, script.puppet.names)

    def test_idle(self):
        random = Random(1)
        many = {}
        for _ in range(200):
            script, facts = self.drawn(random)
            found = idle(script, facts)
            self.assertIs(type(found), str)
            self.assertEqual(found, idle_by_hand(script, facts))
            share = "all" if found == facts.names else "some" if found else "none"
            many[share] = many.get(share, 0) + 1
            for name in found:
                self.assert_runs_alike(random, script, facts, name)
        self.assertGreater(min(many["some"], many["none"]), 30, many)

    def assert_runs_alike(self, random, script, facts, name):
        """By runs, too, the heights are the same without a string."""
        other = Script(script.puppet.without(name), script.start, script.moves)
        for lengths in Lengths(facts).some(random, 3)[-6:]:
            left = {each: length for each, length in lengths.items() if each != name}
            run, again = script.run(lengths), other.run(left)
            for moment in range(len(run)):
                for part in script.puppet.parts:
                    self.assertEqual(run.height(moment, part), again.height(moment, part))

    def test_least_sets(self):
        random = Random(2)
        many = {}
        for _ in range(150):
            script, facts = self.drawn(random)
            for _ in range(3):
                wish = drawn_wish(random, script)
                found = least_sets(script, facts, wish)
                self.assertIs(type(found), list)
                self.assertEqual(found, least_sets_by_hand(script, facts, wish))
                many[len(found)] = many.get(len(found), 0) + 1
        self.assertGreater(min(many[0], many[1], many[2] + many.get(3, 0) + many.get(4, 0)), 20, many)


class IdleTest(ErrorCase):

    def test_a_shorter_string_beside_it(self):
        self.assertEqual(idle(LINES, LINE_FACTS), "b")
        self.assertEqual(idle(LINES, FREE), "")
        # Where both are always of one length, each by itself is idle.
        same = Facts("ab", (Form(0, (("a", 1), ("b", -1))), Form(0, (("a", -1), ("b", 1)))))
        self.assertEqual(idle(LINES, same), "ab")
        self.assertEqual(idle(Script(two_lines(), {"A": 10, "B": 11}), same), "a")
        self.assertEqual(idle(Script(two_lines(), START, (("move", "A", 1), ("move", "A", -2))), same), "")

    def test_strings_that_hold_nothing(self):
        long = Facts("ab", (Form(-10, (("a", 1),)), Form(-10, (("b", 1),))))
        self.assertEqual(idle(LINES, long), "ab")
        self.assertEqual(idle(Script(two_lines(), START, (("move", "B", 1),)), long), "a")
        self.assertEqual(idle(Script(two_lines(), START, (("move", "B", 1), ("move", "B", -1))), long), "a")

    def test_all_but_one(self):
        puppet = Puppet(("load",), (), "A", tuple((name, "A", "load") for name in "abcdef"))
        shortest = Facts("abcdef", tuple(Form(0, (("c", -1), (name, 1)) if name > "c" else ((name, 1), ("c", -1)))
                                         for name in "abdef"))
        self.assertEqual(idle(Script(puppet, {"A": 30}), shortest), "abdef")
        self.assertEqual(idle(Script(puppet, {"A": 30}, (("hold", "A", "load", 35),)), shortest), "abdef")

    def test_the_only_string(self):
        puppet = Puppet(("hand", "foot"), (), "AB", (("a", "A", "hand"),))
        for facts in (Facts("a"), Facts("a", (Form(-99, (("a", 1),)),))):
            self.assertEqual(idle(Script(puppet, START), facts), "")
            self.assertEqual(idle(Script(puppet, START, (("lift", "A", "hand"),)), facts), "")

    def test_a_string_that_is_never_taut_but_needed_for_a_hold(self):
        puppet = Puppet(("load",), (), "AB", (("a", "A", "load"), ("b", "B", "load")))
        facts = Facts("ab", (Form(4, (("a", -1),)), Form(-30, (("b", 1),))))
        held = Script(puppet, START, (("hold", "B", "load", -20),))
        for lengths in ({"a": 4, "b": 30}, {"a": 0, "b": 99}):
            self.assertEqual([held.run(lengths).taut(moment) for moment in (0, 1)], ["a", "a"])
        # Without b the hook has no way; where no hook is hauled by it, it is idle.
        self.assertEqual(idle(held, facts), "")
        self.assertEqual(idle(Script(puppet, START), facts), "b")
        for kind in ("lift", "ease"):
            self.assertEqual(idle(Script(puppet, START, ((kind, "B", "load"),)), facts), "")

    def test_a_string_by_which_a_hold_goes(self):
        # The hook A has two strings to the load: by the longer one alone it would go higher.
        puppet = Puppet(("load", "flag"), (), "A", (("a", "A", "load"), ("b", "A", "load"), ("c", "A", "flag")))
        facts = Facts("abc", (Form(-1, (("a", -1), ("b", 1))),))
        held = Script(puppet, {"A": 0}, (("hold", "A", "load", 6),))
        self.assertEqual(idle(held, facts), "b")
        self.assertEqual(idle(Script(puppet, {"A": 0}, (("lift", "A", "flag"),)), facts), "b")
        self.assertEqual(idle(Script(puppet, {"A": 0}), facts), "abc")

    def test_hooks_may_stay_elsewhere(self):
        # Without b the hook A goes to another height, which nobody sees: all parts are where they were.
        puppet = Puppet(("load",), (), "AB", (("a", "A", "load"), ("b", "A", "load"), ("c", "B", "load")))
        facts = Facts("abc", (Form(0, (("c", -1),)), Form(2, (("a", -1),)), Form(-3, (("b", 1),)), Form(5, (("b", -1),))))
        lift, hold, down = ("lift", "A", "load"), ("hold", "A", "load", 3), ("move", "B", -9)
        for moves, expected in [((lift,), "ab"), ((lift, down), "ab"), ((hold,), "ab"), ((hold, down), "b")]:
            self.assertEqual(idle(Script(puppet, {"A": 6, "B": 10}, moves), facts), expected)

    def test_at_each_moment(self):
        # The heights differ at the moment 1 alone.
        facts = Facts("ab", (Form(4, (("a", -1),)), Form(-4, (("b", 1),)), Form(6, (("b", -1),))))
        there = Script(two_lines(), START, (("move", "B", 9), ("move", "B", -9)))
        self.assertEqual([idle(LINES, facts), idle(there, facts)], ["b", ""])

    def test_by_name(self):
        self.assertEqual(idle(facts=LINE_FACTS, script=LINES), "b")


class LeastSetsTest(ErrorCase):

    def test_one_string(self):
        self.assertEqual(least_sets(LINES, LINE_FACTS, Wish.read("(over load@0 floor 6)")), ["a"])
        self.assertEqual(least_sets(script=LINES, wish=Wish.read("(over load@0 floor 6)"), facts=LINE_FACTS), ["a"])
        self.assertEqual(least_sets(LINES, LINE_FACTS, Wish.read("(over load@0 floor 0)")), ["a", "b"])
        self.assertEqual(least_sets(LINES, LINE_FACTS, Wish.read("(over floor load@0 -5)")), ["b"])

    def test_none(self):
        for text in ("(over load@0 floor 7)", "(over load@0 floor 11)", "(not (over a a 0))"):
            self.assertEqual(least_sets(LINES, LINE_FACTS, Wish.read(text)), [])

    def test_two_strings(self):
        short = Facts("abc", (Form(5, (("a", -1),)), Form(7, (("b", -1),)), Form(9, (("c", -1),))))
        rows = [("(and (over hand@0 floor 13) (over foot@0 floor 11))", ["bc"]),
                ("(and (over hand@0 floor 11) (over foot@0 floor 9))", ["a", "bc"]),
                ("(over foot@0 floor 9)", ["a", "c"]), ("(over body@0 floor 9)", ["a", "b"]),
                ("(over body@0 floor 5)", ["a", "b", "c"]), ("(over foot@0 floor 3)", ["a", "b", "c"]),
                ("(and (over body@0 floor 15) (over foot@0 floor 11))", ["ac"]),
                ("(and (over body@0 floor 15) (over foot@0 floor 11) (over hand@0 floor 13))", ["abc"]),
                ("(over body@0 floor 16)", [])]
        for text, expected in rows:
            self.assertEqual(least_sets(MAN, short, Wish.read(text)), expected)

    def test_smaller_sets_first(self):
        puppet = Puppet(("load", "flag"), (), "AB", (("a", "A", "load"), ("b", "B", "load"), ("c", "A", "flag"),
                                                     ("d", "A", "load")))
        facts = Facts("abcd", (Form(3, (("a", -1), ("b", -1))), Form(1, (("d", -1),))))
        script = Script(puppet, START)
        # With a and b together, one of them is no longer than 3/2; d alone is enough as well.
        self.assertEqual(least_sets(script, facts, Wish.read("(over load@0 floor 17/2)")), ["d", "ab"])
        self.assertEqual(least_sets(script, facts, Wish.read("(over load@0 floor 9)")), ["d"])
        self.assertEqual(least_sets(script, facts, Wish.read("(over load@0 floor 7)")), ["a", "b", "d"])

    def test_more_strings_may_be_worse(self):
        # That the load is low is always so with the longer string alone, and never surely with both.
        long = Facts("ab", (Form(-8, (("a", 1),)),))
        low = Wish.read("(over floor load@0 -2)")
        self.assertEqual(least_sets(LINES, long, low), ["a"])
        self.assertIs(always(LINES, long, low), False)

    def test_lengths_of_strings_that_are_left_out(self):
        wish = Wish.read("(and (over load@0 floor 6) (over b a 1))")
        self.assertEqual(least_sets(LINES, LINE_FACTS, wish), ["a"])
        self.assertEqual(least_sets(LINES, FREE, wish), [])
        # The lengths of both keep the facts, also if the load hangs by one of them alone.
        tied = Facts("ab", (Form(-2, (("a", 1), ("b", 1))), Form(2, (("a", -1), ("b", -1)))))
        self.assertEqual(least_sets(LINES, tied, Wish.read("(over load@0 floor 8)")), ["a", "b"])
        self.assertEqual(least_sets(LINES, tied, Wish.read("(if (over a floor 1) (over load@0 floor 9))")), ["b"])
        self.assertEqual(least_sets(LINES, tied, Wish.read("(if (over b floor 1) (over load@0 floor 9))")), ["a"])
        self.assertEqual(least_sets(LINES, tied, Wish.read("(over load@0 floor 9)")), ["ab"])

    def test_hauls_that_need_a_string(self):
        for kind in ("lift", "ease"):
            script = Script(two_lines(), START, ((kind, "B", "load"),))
            self.assertEqual(least_sets(script, FREE, Wish.read("(over floor floor 0)")), ["b"])
            both = Script(two_lines(), START, (("lift", "A", "load"), (kind, "B", "load")))
            self.assertEqual(least_sets(both, FREE, Wish.read("(over floor floor 0)")), ["ab"])
        held = Script(two_lines(), START, (("hold", "B", "load", 7),))
        self.assertEqual(least_sets(held, FREE, Wish.read("(over load@last floor 7)")), ["b"])
        self.assertEqual(least_sets(held, FREE, Wish.read("(over load@0 floor 7)")), [])
        # By a tie the hook has a way to the hand on each of its strings.
        man = Script(stick_man(), {"B": 20, "F": 20, "H": 20}, (("lift", "B", "hand"),))
        self.assertEqual(least_sets(man, Facts("abc"), Wish.read("(over hand@0 hand@1 0)")), ["a"])

    def test_the_only_string(self):
        script = Script(Puppet(("load",), (), "A", (("c", "A", "load"),)), {"A": 9})
        facts = Facts("c", (Form(4, (("c", -1),)),))
        self.assertEqual(least_sets(script, facts, Wish.read("(over load@0 floor 5)")), ["c"])
        self.assertEqual(least_sets(script, facts, Wish.read("(over load@0 floor 6)")), [])

    def test_new_lists(self):
        wish = Wish.read("(over load@0 floor 6)")
        least_sets(LINES, LINE_FACTS, wish).clear()
        self.assertEqual(least_sets(LINES, LINE_FACTS, wish), ["a"])
        self.assertEqual(LINES, Script(two_lines(), START))


class ErrorsTest(ErrorCase):

    def test_no_scripts_and_no_facts(self):
        wish = Wish.read("(over load@0 floor 6)")
        for value in [*strange(), two_lines(), FREE, Script, Seen(LINES, FREE)]:
            self.assert_refused(NotAScript, value, idle, value, None)
            self.assert_refused(NotAScript, value, least_sets, value, None, None)
            self.assert_refused(NotAScript, value, least_sets, wish=wish, facts=FREE, script=value)
        for value in [*strange(), LINES, "ab", Facts]:
            self.assert_refused(NotFacts, value, idle, LINES, value)
            self.assert_refused(NotFacts, value, idle, facts=value, script=LINES)
            self.assert_refused(NotFacts, value, least_sets, LINES, value, None)
        for facts in (Facts("a"), Facts("ac"), Facts("abc")):
            self.assert_refused(OtherNames, facts.names, idle, LINES, facts)
            self.assert_refused(OtherNames, facts.names, least_sets, LINES, facts, None)

    def test_wishes_that_are_none(self):
        foreign = Wish.read("(over foot@0 floor 0)")
        late = Wish.read("(over load@1 floor 0)")
        for wish in [*strange(), foreign.form, str(foreign), Wish]:
            self.assert_refused(NotAWish, wish, least_sets, LINES, FREE, wish)
        for wish in (foreign, late, Wish.read("(over c floor 0)")):
            self.assert_refused(InvalidWish, wish.form, least_sets, LINES, FREE, wish)
            self.assert_refused(InvalidWish, wish.form, least_sets, wish=wish, facts=FREE, script=LINES)
