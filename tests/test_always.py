"""Tests of slackstrings.always."""

from fractions import Fraction
from random import Random

from slackstrings.always import alike, always, at_greatest, at_least, breach, ever, greatest, least, most_above
from slackstrings.always import parting, tolerance
from slackstrings.errors import InvalidLevel, InvalidNumber, InvalidWish, Never, NotAScript, NotAWish, NotFacts
from slackstrings.errors import OtherNames, OtherParts, UnknownPart
from slackstrings.facts import Facts
from slackstrings.forms import Form
from slackstrings.puppets import Puppet
from slackstrings.ratios import Ratio
from slackstrings.samples import stick_man, two_lines
from slackstrings.scripts import Script
from slackstrings.wishes import Wish
from tests.cases import ErrorCase, Lengths, drawn_facts, drawn_level, drawn_puppet, drawn_script, drawn_wish, level_in
from tests.cases import ratios
from tests.values import LONG, others, strange

MAN = Script(stick_man(), {"B": 20, "F": 20, "H": 20}, (("lift", "F", "foot"), ("move", "F", 5)))
MAN_FACTS = Facts("abc", (Form(15, (("a", -1),)),))
LINES = Script(two_lines(), {"A": 10, "B": 10})
LINE_FACTS = Facts("ab", (Form(4, (("a", -1),)), Form(-5, (("b", 1),))))
FREE = Facts("ab")
LOAD = ("part", "load", "last")


def told(lengths):
    """Lengths as texts."""
    return {name: str(length) for name, length in lengths.items()}


class AlwaysCase(ErrorCase):

    def assert_lengths(self, lengths, facts):
        self.assertIs(type(lengths), dict)
        self.assertEqual(sorted(lengths), list(facts.names))
        self.assertTrue(all(type(length) is Ratio for length in lengths.values()))
        self.assertTrue(facts.keeps(lengths))

    def assert_breach(self, script, facts, wish):
        """There is a breach, and it is one."""
        lengths = breach(script, facts, wish)
        self.assert_lengths(lengths, facts)
        self.assertIs(wish.holds(script.run(lengths)), False)
        self.assertIs(always(script, facts, wish), False)

    def assert_always(self, script, facts, wish):
        self.assertIs(always(script, facts, wish), True)
        self.assertIsNone(breach(script, facts, wish))
        self.assertIs(ever(script, facts, wish), True)

    def drawn(self, random, many=4):
        """A script, facts that go with it, and the lengths to draw from."""
        script = drawn_script(random, drawn_puppet(random, 4, many, 3), 5, 3)
        facts = drawn_facts(random, script.puppet.names)
        return script, facts, Lengths(facts)


class WishesTest(AlwaysCase):

    def test_drawn_wishes(self):
        random = Random(1)
        seen = {}
        for _ in range(250):
            script, facts, lengths = self.drawn(random)
            runs = [script.run(each) for each in lengths.some(random, 10)]
            for _ in range(3):
                wish = drawn_wish(random, script)
                truths = [wish.holds(run) for run in runs]
                found = always(script, facts, wish), ever(script, facts, wish)
                seen[found] = seen.get(found, 0) + 1
                if found[0]:
                    self.assert_always(script, facts, wish)
                    self.assertNotIn(False, truths)
                else:
                    self.assert_breach(script, facts, wish)
                self.assertEqual(found[1], breach(script, facts, wish.denied()) is not None)
                if not found[1]:
                    self.assertNotIn(True, truths)
        self.assertEqual(sorted(seen), [(False, False), (False, True), (True, True)])
        self.assertGreater(min(seen.values()), 50)

    def test_what_holds_but_in_one_point(self):
        # The load is at 7/3 only if a is just 23/3; a wish can leave that out or ask for it.
        facts = Facts("ab", (Form(9, (("a", -1),)), Form(-5, (("a", 1),)), Form(-12, (("b", 1),))))
        high, low = "(over load@0 floor 7/3)", "(over floor load@0 -7/3)"
        self.assert_always(LINES, facts, Wish.read(f"(or {high} {low})"))
        self.assert_always(LINES, facts, Wish.read(f"(if (not {high}) {low})"))
        self.assert_breach(LINES, facts, Wish.read(f"(not (and {high} {low}))"))
        self.assertEqual(told(breach(LINES, facts, Wish.read(f"(not (and {high} {low}))")))["a"], "23/3")
        self.assertIs(ever(LINES, facts, Wish.read(f"(and {high} {low})")), True)
        self.assertIs(ever(LINES, facts, Wish.read(f"(not (or {high} {low}))")), False)
        self.assertIs(ever(LINES, facts, Wish.read(f"(and {high} {low} (not (over a floor 23/3)))")), False)

    def test_edges(self):
        rows = [("(over load@0 floor 6)", True, True), ("(over load@0 floor 61/10)", False, True),
                ("(over floor load@0 -10)", True, True), ("(over floor load@0 -99/10)", False, True),
                ("(not (over load@0 floor 6))", False, False), ("(not (over load@0 floor 10))", False, True),
                ("(not (over floor load@0 -6))", False, True), ("(not (over floor load@0 -5))", True, True),
                ("(over b a 1)", True, True), ("(not (over b a 1))", False, False), ("(over b a 2)", False, True),
                ("(over a a 0)", True, True), ("(over a a 1/9)", False, False), ("(over floor floor 0)", True, True)]
        for text, expected, for_some in rows:
            wish = Wish.read(text)
            self.assertIs(always(LINES, LINE_FACTS, wish), expected)
            self.assertIs(always(wish=wish, facts=LINE_FACTS, script=LINES), expected)
            self.assertIs(ever(LINES, LINE_FACTS, wish), for_some)
            self.assertIs(ever(facts=LINE_FACTS, wish=wish, script=LINES), for_some)
            if not expected:
                self.assert_breach(LINES, LINE_FACTS, wish)

    def test_facts_that_tie_lengths(self):
        script = Script(stick_man(), {"B": 30, "F": 30, "H": 30}, (("hold", "F", "foot", 9), ("lift", "H", "body")))
        facts = Facts("abc", (Form(0, (("a", -1), ("b", 1))), Form(2, (("a", 1), ("c", -1))), Form(12, (("b", -1),))))
        # b is no shorter than a, and c is longer than a by two at the most.
        for text, expected in [("(over body@0 hand@0 0)", True), ("(over hand@0 body@0 -4)", True),
                               ("(over hand@0 body@0 -3)", False), ("(over foot@0 body@0 -2)", True),
                               ("(over foot@0 body@0 -1)", False), ("(over body@last floor 18)", True),
                               ("(over body@last floor 181/10)", False), ("(over F@0 F@1 0)", True)]:
            self.assertIs(always(script, facts, Wish.read(text)), expected)

    def test_many_overs(self):
        # Each part at each moment in one wish; none of them can be told from the first one alone.
        overs = [("over", ("part", "foot", moment), ("part", "body", moment), -6) for moment in (0, 1, 2)]
        overs += [("over", ("part", "hand", moment), ("part", "body", moment), -4) for moment in (0, 1, 2)]
        wish = Wish(("and", *overs))
        self.assert_always(MAN, Facts("abc"), wish)
        self.assertIs(ever(MAN, Facts("abc"), wish.denied()), False)
        nearly = Wish(("and", *overs[:5], ("over", ("part", "hand", 2), ("part", "body", 2), (-39, 10))))
        self.assert_breach(MAN, Facts("abc"), nearly)

    def test_hauls_that_depend_on_hauls(self):
        # Only by way of the load does the one hook know of the other.
        script = Script(two_lines(), {"A": 0, "B": 0}, (("hold", "B", "load", 20), ("lift", "A", "load")))
        self.assert_always(script, FREE, Wish.read("(over A@2 a 20)"))
        self.assert_always(script, FREE, Wish.read("(over a A@last -20)"))
        self.assert_breach(script, FREE, Wish.read("(over A@1 a 0)"))
        self.assertIs(ever(script, FREE, Wish.read("(not (over a A@last -20))")), False)
        facts = Facts("ab", (Form(4, (("a", -1),)),))
        self.assertEqual([str(act(script, facts, ("hook", "A", 2))) for act in (least, greatest)], ["20", "24"])
        self.assertEqual([str(act(script, facts, ("hook", "A", 1))) for act in (least, greatest)], ["0", "0"])

    def test_long_numbers(self):
        facts = Facts("ab", (Form(LONG, (("a", -7 * LONG),)),))
        self.assert_always(LINES, facts, Wish.read("(over load@0 floor 69/7)"))
        self.assert_breach(LINES, facts, Wish(("over", LOAD, ("floor",), (69 * LONG + 1, 7 * LONG))))

    def test_new_dicts(self):
        wish = Wish.read("(over load@0 floor 61/10)")
        found = breach(LINES, LINE_FACTS, wish)
        self.assertEqual(found, breach(script=LINES, facts=LINE_FACTS, wish=wish))
        found.clear()
        self.assert_breach(LINES, LINE_FACTS, wish)


class LevelsTest(AlwaysCase):

    def assert_extreme(self, script, facts, level, runs):
        """The greatest and the least are reached, and no run leads beyond them."""
        high, low = greatest(script, facts, level), least(script, facts, level)
        for bound, there in [(high, at_greatest(script, facts, level)), (low, at_least(script, facts, level))]:
            if bound is None:
                self.assertIsNone(there)
            else:
                self.assertIs(type(bound), Ratio)
                self.assert_lengths(there, facts)
                self.assertEqual(level_in(level, script.run(there)), bound)
        for run in runs:
            self.assertTrue(high is None or level_in(level, run).compared(high) <= 0)
            self.assertTrue(low is None or level_in(level, run).compared(low) >= 0)
        return high is None

    def test_drawn_levels(self):
        random = Random(2)
        unbounded = 0
        for _ in range(250):
            script, facts, lengths = self.drawn(random)
            runs = [script.run(each) for each in lengths.some(random, 10)]
            for _ in range(3):
                level = drawn_level(random, script)
                if self.assert_extreme(script, facts, level, runs):
                    unbounded += 1
                    self.assert_unbounded(random, script, level, lengths)
        self.assertGreater(unbounded, 20)

    def assert_unbounded(self, random, script, level, lengths):
        """Far out in some direction, the level is far up."""
        for _ in range(100):
            there = [Fraction(0)] * len(lengths.names)
            for ray in lengths.rays:
                far = random.choice((0, 1, 1, 3)) * 10 ** 9
                there = [at + far * step for at, step in zip(there, ray)]
            for corner in lengths.corners:
                told_lengths = ratios({name: at + step for name, at, step in zip(lengths.names, corner, there)})
                if level_in(level, script.run(told_lengths)).compared(10 ** 6) > 0:
                    return
        self.fail(f"{level} is never far up")

    def test_told_levels(self):
        rows = [(("part", "body", 0), "5", "20"), (("part", "foot", 0), "0", "20"), (("hook", "F", 1), "20", None),
                (("hook", "B", 2), "20", "20"), (("part", "foot", 2), "5", "25"), (("length", "a"), "0", "15"),
                (("length", "b"), "0", None), (("floor",), "0", "0"), (("part", "body", "last"), "5", "20")]
        for level, low, high in rows:
            self.assertEqual(str(least(MAN, MAN_FACTS, level)), low)
            self.assertEqual(str(greatest(MAN, MAN_FACTS, level)), str(high))
            self.assertEqual(str(least(level=level, facts=MAN_FACTS, script=MAN)), low)
            self.assertEqual(str(greatest(level=level, facts=MAN_FACTS, script=MAN)), str(high))
            self.assert_extreme(MAN, MAN_FACTS, level, [])
        self.assertIsNone(at_greatest(script=MAN, facts=MAN_FACTS, level=("length", "b")))
        found = at_least(script=MAN, facts=MAN_FACTS, level=("part", "body", 0))
        self.assertEqual(str(found["a"]), "15")
        found.clear()
        self.assertEqual(str(at_least(MAN, MAN_FACTS, ("part", "body", 0))["a"]), "15")

    def test_hooks_go_up_without_end(self):
        script = Script(two_lines(), {"A": 10, "B": 10}, (("lift", "A", "load"),))
        self.assertIsNone(greatest(script, FREE, ("hook", "A", 1)))
        self.assertIsNone(at_greatest(script, FREE, ("hook", "A", "last")))
        self.assertEqual(str(greatest(script, FREE, ("hook", "A", 0))), "10")
        self.assertEqual(str(greatest(script, FREE, LOAD)), "10")

    def test_levels_that_are_none(self):
        wrong = [("part", "foot", 3), ("part", "foot", 7), ("part", "foot", -1), ("part", "foot", True), ("part", "head", 0),
                 ("part", "foot", "first"), ("part", "foot"), ("hook", "A", 0), ("hook", "BF", 0), ("hook", "B", 3),
                 ("length", "d"), ("length", "ab"), ("length", "a", 0), ("floor", 0), ("string", "a"), "floor", "foot@0",
                 ["floor"], ["part", "foot", 0], ("foot", 0), *strange()]
        for level in wrong:
            for act in (greatest, least, at_greatest, at_least):
                self.assert_refused(InvalidLevel, level, act, MAN, MAN_FACTS, level)
                self.assert_refused(InvalidLevel, level, act, level=level, facts=MAN_FACTS, script=MAN)


class AlikeTest(AlwaysCase):

    def assert_parting(self, script, other, facts, part):
        """The scripts part, and this part is the first one that does where they are told to."""
        found = parting(script, other, facts)
        self.assertIs(type(found), tuple)
        lengths, first = found
        self.assert_lengths(lengths, facts)
        here, there = script.run(lengths), other.run(lengths)
        apart = [each for each in script.puppet.parts if here.height("last", each) != there.height("last", each)]
        self.assertEqual(first, apart[0])
        self.assertIn(part, (None, first))
        self.assertIs(alike(script, other, facts), False)

    def assert_alike(self, script, other, facts):
        self.assertIs(alike(script, other, facts), True)
        self.assertIs(alike(facts=facts, other=script, script=other), True)
        self.assertIsNone(parting(other=other, facts=facts, script=script))

    def test_drawn_scripts(self):
        random = Random(3)
        seen = [0, 0]
        for turn in range(250):
            script, facts, lengths = self.drawn(random)
            puppet = script.puppet
            other = drawn_script(random, puppet, 4, 2) if turn % 2 else Script(puppet, script.start, script.moves[:-1])
            found = alike(script, other, facts)
            seen[found] += 1
            if found:
                self.assert_alike(script, other, facts)
                for each in lengths.some(random, 10):
                    here, there = script.run(each), other.run(each)
                    for part in puppet.parts:
                        self.assertEqual(here.height("last", part), there.height("last", part))
            else:
                self.assert_parting(script, other, facts, None)
        self.assertGreater(min(seen), 50)

    def test_the_same_by_other_moves(self):
        def made(*moves):
            return Script(two_lines(), {"A": 10, "B": 10}, moves)
        rows = [(made(("move", "AB", 2)), made(("move", "A", 2), ("move", "B", 2))),
                (made(("lift", "A", "load")), made()), (made(("ease", "A", "load"), ("lift", "A", "load")), made(("ease", "A", "load"))),
                (made(("hold", "A", "load", 7)), made(("hold", "B", "load", 7))),
                (made(("hold", "A", "load", -3)), made()), (made(), Script(two_lines(), {"A": 10, "B": 10})),
                (made(("move", "A", -3), ("lift", "A", "load"), ("lift", "B", "load")), made(("move", "A", -3)))]
        for one, other in rows:
            self.assert_alike(one, other, FREE)
            self.assert_alike(one, other, LINE_FACTS)

    def test_other_puppets(self):
        one = Puppet(("hand", "foot"), (("hand", "foot", 3),), "A", (("a", "A", "hand"), ("b", "A", "foot")))
        other = Puppet(("foot", "hand"), (("foot", "hand", 3),), "XY", (("a", "X", "hand"), ("b", "Y", "foot")))
        longer = Puppet(("foot", "hand"), (("foot", "hand", 4),), "XY", other.strings)
        script, same = Script(one, {"A": 9}), Script(other, {"X": 9, "Y": 9})
        self.assert_alike(script, same, FREE)
        self.assert_parting(script, Script(longer, {"X": 9, "Y": 9}), FREE, None)
        # By three they never differ, so the longer tie does not count.
        near = Facts("ab", (Form(3, (("a", 1), ("b", -1))), Form(3, (("a", -1), ("b", 1)))))
        self.assert_alike(script, Script(longer, {"X": 9, "Y": 9}), near)

    def test_apart_in_one_corner_alone(self):
        held = Script(two_lines(), {"A": 10, "B": 10}, (("hold", "A", "load", 6),))
        for most, expected in [(4, True), (Ratio(4), True), (5, False)]:
            most = most if isinstance(most, int) else most.top
            facts = Facts("ab", (Form(most, (("a", -1),)), Form(most, (("b", -1),))))
            self.assertIs(alike(held, LINES, facts), expected)
        # Both lengths must be above 4, which a sum of at most 8 + 1/100 only just lets in.
        tight = Facts("ab", (Form(801, (("a", -100), ("b", -100))),))
        self.assert_parting(held, LINES, tight, "load")
        self.assert_alike(held, LINES, Facts("ab", (Form(8, (("a", -1), ("b", -1))),)))

    def test_the_first_part(self):
        start = {"B": 20, "F": 20, "H": 20}
        low = Script(stick_man(), start, (("move", "F", -1),))
        facts = Facts("abc", (Form(2, (("a", -1),)), Form(2, (("b", -1),)), Form(2, (("c", -1),))))
        self.assert_parting(Script(stick_man(), start), low, facts, "foot")
        turned = Puppet(("foot", "hand", "body"), stick_man().ties, "BFH", stick_man().strings)
        self.assert_parting(Script(turned, start), Script(stick_man(), start, (("move", "BFH", -1),)), facts, None)

    def test_hauls_that_depend_on_hauls(self):
        puppet = Puppet(("hand", "foot"), (), "AB", (("a", "A", "hand"), ("b", "B", "hand"), ("c", "A", "foot")))
        def made(aim):
            return Script(puppet, {"A": 9, "B": 0}, (("hold", "B", "hand", aim), ("lift", "A", "hand"), ("move", "B", -99)))
        self.assert_alike(made(10), made(10), Facts("abc"))
        self.assert_alike(made(-10), made(-11), Facts("abc"))
        self.assert_parting(made(10), made(11), Facts("abc"), None)
        short = Facts("abc", (Form(0, (("a", -1),)), Form(5, (("c", -1),))))
        self.assertEqual(str(most_above(made(12), made(11), short, "foot")), "1")
        self.assert_alike(made(9), made(8), short)

    def test_facts_of_one_point(self):
        point = Facts("ab", (Form(5, (("a", -1),)), Form(-5, (("a", 1),)), Form(7, (("b", -1),)), Form(-7, (("b", 1),))))
        self.assert_alike(LINES, Script(two_lines(), {"A": 10, "B": 12}), point)
        self.assert_alike(LINES, Script(two_lines(), {"A": 9, "B": 12}), point)
        self.assert_parting(LINES, Script(two_lines(), {"A": 10, "B": 13}), point, "load")

    def test_new_dicts(self):
        other = Script(two_lines(), {"A": 11, "B": 10})
        parting(LINES, other, FREE)[0].clear()
        self.assert_parting(LINES, other, FREE, "load")


class MostAboveTest(AlwaysCase):

    def test_drawn_scripts(self):
        random = Random(4)
        reached = 0
        for _ in range(250):
            script, facts, lengths = self.drawn(random, 3)
            puppet = script.puppet
            order = random.sample(puppet.parts, len(puppet.parts))
            turned = Puppet(tuple(order), puppet.ties, puppet.hooks, puppet.strings)
            other = drawn_script(random, turned, 3, 1)
            part = random.choice(puppet.parts)
            found = most_above(script, other, facts, part)
            gaps = [self.gap(script, other, part, each) for each in lengths.some(random, 30)]
            if found is not None:
                self.assertIs(type(found), Ratio)
                self.assertTrue(all(gap.compared(found) <= 0 for gap in gaps))
                reached += found in gaps
        # Mostly the greatest gap is at a corner, or somewhere where the lengths may be drawn.
        self.assertGreater(reached, 100)

    def gap(self, script, other, part, lengths):
        return script.run(lengths).height("last", part) - other.run(lengths).height("last", part)

    def test_gaps_of_which_one_side_stays(self):
        random = Random(6)
        for _ in range(100):
            script, facts, _ = self.drawn(random)
            part = random.choice(script.puppet.parts)
            level = ("part", part, "last")
            # Nothing holds any part of this one.
            sunk = Script(script.puppet, {hook: 0 for hook in script.puppet.hooks})
            high, low = greatest(script, facts, level), least(script, facts, level)
            self.assertEqual(most_above(script, sunk, facts, part), high)
            self.assertEqual(most_above(sunk, script, facts, part), -low)
            self.assertEqual(most_above(script, script, facts, part), 0)

    def test_told_gaps(self):
        def made(first, second, *moves):
            return Script(two_lines(), {"A": first, "B": second}, moves)
        tied = Facts("ab", (Form(1, (("a", 1), ("b", -1))), Form(0, (("a", -1), ("b", 1)))))
        rows = [(made(10, 10), made(10, 10), FREE, "0"), (made(12, 10), made(10, 10), FREE, "2"),
                (made(10, 10), made(12, 10), FREE, "0"), (made(10, 10), made(12, 12), Facts("ab", (
                    Form(9, (("a", -1),)),)), "-2"), (made(10, 0), made(0, 10), FREE, "10"),
                (made(10, 0), made(0, 10), tied, "1"), (made(10, 10, ("hold", "A", "load", 8)), made(10, 10), FREE, "8"),
                (made(10, 10, ("move", "A", -10), ("lift", "A", "load")), made(10, 10), FREE, "0")]
        for script, other, facts, gap in rows:
            self.assertEqual(str(most_above(script, other, facts, "load")), gap)
            self.assertEqual(str(most_above(part="load", facts=facts, other=other, script=script)), gap)

    def test_hauls_that_lift_other_parts_without_end(self):
        puppet = Puppet(("hand", "foot"), (), "A", (("a", "A", "hand"), ("b", "A", "foot")))
        still, lifted = Script(puppet, {"A": 5}), Script(puppet, {"A": 5}, (("hold", "A", "hand", 5),))
        self.assertIsNone(most_above(lifted, still, FREE, "foot"))
        self.assertEqual(str(most_above(lifted, still, FREE, "hand")), "5")
        self.assertEqual(str(most_above(still, lifted, FREE, "foot")), "0")

    def test_unknown_parts(self):
        for part in ["body", "", "loa", "A", *strange()]:
            self.assert_refused(UnknownPart, part, most_above, LINES, LINES, FREE, part)
            self.assert_refused(UnknownPart, part, most_above, part=part, facts=FREE, other=LINES, script=LINES)


class ToleranceTest(AlwaysCase):

    def loosened(self, facts, index, amount):
        """The facts in which one form has more."""
        form = facts.forms[index] * amount.bottom + amount.top
        return Facts(facts.names, (*facts.forms[:index], form, *facts.forms[index + 1:]))

    def assert_tolerance(self, script, facts, index, wish):
        """The wish holds below the tolerance, and fails above it."""
        found = tolerance(script, facts, index, wish)
        if found is None:
            for amount in (0, 1, Ratio(22, 7), 10 ** 6):
                self.assert_always(script, self.loosened(facts, index, Ratio(1) * amount), wish)
            return True
        self.assertIs(type(found), Ratio)
        self.assertGreaterEqual(found.top, 0)
        for share in (Ratio(0), Ratio(1, 2), Ratio(999, 1000)):
            self.assert_always(script, self.loosened(facts, index, found * share), wish)
        for more in (Ratio(1, 1000), Ratio(5), Ratio(10 ** 6)):
            self.assert_breach(script, self.loosened(facts, index, found + more), wish)
        return False

    def test_drawn_wishes(self):
        random = Random(5)
        seen = [0, 0]
        while min(seen) < 25:
            script, facts, _ = self.drawn(random, 3)
            for _ in range(10):
                wish = drawn_wish(random, script)
                if facts.forms and always(script, facts, wish):
                    index = random.randrange(len(facts))
                    seen[self.assert_tolerance(script, facts, index, wish)] += 1

    def test_told_tolerances(self):
        rows = [(0, "(over load@0 floor 2)", "4"), (0, "(over load@0 floor 6)", "0"), (0, "(over load@0 floor 5)", "1"),
                (0, "(over load@0 floor 11/2)", "1/2"), (1, "(over load@0 floor 6)", "None"), (1, "(over b a 1)", "0"),
                (1, "(over b a 0)", "1"), (0, "(over b a -1/3)", "4/3"), (0, "(over load@0 floor 0)", "None"),
                (1, "(not (over floor b -2))", "3"), (0, "(or (over b a 0) (over load@0 floor 4))", "2"),
                (0, "(and (over b a -1) (over load@0 floor 4))", "2"), (0, "(over b floor 5)", "None")]
        for index, text, expected in rows:
            wish = Wish.read(text)
            self.assertEqual(str(tolerance(LINES, LINE_FACTS, index, wish)), expected)
            self.assertEqual(str(tolerance(wish=wish, index=index, facts=LINE_FACTS, script=LINES)), expected)
            self.assert_tolerance(LINES, LINE_FACTS, index, wish)

    def test_facts_with_numbers(self):
        # The form has more by d, not the length: twice a may be 8 + d.
        facts = Facts("ab", (Form(8, (("a", -2),)),))
        self.assertEqual(str(tolerance(LINES, facts, 0, Wish.read("(over load@0 floor 2)"))), "8")
        self.assert_tolerance(LINES, facts, 0, Wish.read("(over load@0 floor 2)"))

    def test_never(self):
        for text in ["(over load@0 floor 7)", "(not (over load@0 floor 0))", "(over b a 2)"]:
            with self.assertRaises(Never) as caught:
                tolerance(LINES, LINE_FACTS, 0, Wish.read(text))
            self.assertEqual(vars(caught.exception), {})

    def test_indexes_that_are_none(self):
        wish = Wish.read("(over load@0 floor 7)")
        for index in [-1, 2, 8, LONG, Ratio(0), Ratio(1), "0", *others()]:
            for each in (wish, None):
                self.assert_refused(InvalidNumber, index, tolerance, LINES, LINE_FACTS, index, each)
                self.assert_refused(InvalidNumber, index, tolerance, wish=each, index=index, facts=LINE_FACTS, script=LINES)
        self.assert_refused(InvalidNumber, 0, tolerance, LINES, FREE, 0, wish)


class ErrorsTest(AlwaysCase):

    def with_wishes(self):
        """What is asked with a script, facts and a wish."""
        return [always, ever, breach, lambda script, facts, wish: tolerance(script, facts, 0, wish)]

    def with_levels(self):
        return [greatest, least, at_greatest, at_least]

    def test_no_scripts_and_no_facts(self):
        for value in [*strange(), stick_man(), MAN_FACTS, Script]:
            for act in [*self.with_wishes(), *self.with_levels()]:
                self.assert_refused(NotAScript, value, act, value, None, None)
                self.assert_refused(NotAScript, value, act, value, MAN_FACTS, ("floor",))
        for value in [*strange(), MAN, (), "abc", Facts]:
            for act in [*self.with_wishes(), *self.with_levels()]:
                self.assert_refused(NotFacts, value, act, MAN, value, None)

    def test_other_names(self):
        for facts in (FREE, Facts("abcd"), Facts("abd"), Facts("a")):
            for act in [*self.with_wishes(), *self.with_levels()]:
                self.assert_refused(OtherNames, facts.names, act, MAN, facts, None)
            self.assert_refused(OtherNames, facts.names, tolerance, MAN, facts, None, None)

    def test_no_wishes(self):
        foreign = Wish.read("(over load@0 floor 7)")
        late = Wish.read("(over foot@3 floor 7)")
        for act in self.with_wishes():
            for value in [*strange(), foreign.form, str(foreign), Wish]:
                self.assert_refused(NotAWish, value, act, MAN, MAN_FACTS, value)
            for wish in (foreign, late, Wish.read("(or (over a a 0) (over d a 0))")):
                self.assert_refused(InvalidWish, wish.form, act, MAN, MAN_FACTS, wish)

    def test_two_scripts(self):
        def with_part(script, other, facts):
            return most_above(script, other, facts, None)
        other = Script(Puppet(("load", "hand"), (), "AB", two_lines().strings), {"A": 1, "B": 2})
        longer = Script(Puppet(("load",), (), "A", (("a", "A", "load"), ("c", "A", "load"))), {"A": 1})
        for act in (alike, parting, with_part):
            for value in [*strange(), two_lines(), FREE]:
                self.assert_refused(NotAScript, value, act, value, None, None)
                self.assert_refused(NotAScript, value, act, LINES, value, None)
                self.assert_refused(NotAScript, value, act, LINES, value, FREE)
            for value in [*strange(), LINES, "ab"]:
                self.assert_refused(NotFacts, value, act, LINES, other, value)
            self.assert_refused(OtherParts, other.puppet.parts, act, LINES, other, Facts("abc"))
            self.assert_refused(OtherParts, LINES.puppet.parts, act, other, LINES, FREE)
            self.assert_refused(OtherParts, MAN.puppet.parts, act, LINES, MAN, FREE)
            self.assert_refused(OtherNames, "abc", act, LINES, longer, Facts("abc"))
            self.assert_refused_alike(OtherNames, "ac", act, LINES, longer, FREE)

    def test_named(self):
        for act in (always, ever, breach):
            self.assert_refused(NotAWish, 7, act, wish=7, facts=FREE, script=LINES)
        for act in (alike, parting):
            self.assert_refused(NotAScript, 7, act, facts=7, other=7, script=LINES)
