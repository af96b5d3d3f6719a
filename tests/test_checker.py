"""Tests of slackstrings.checker, with papers written by hand."""

from random import Random

from slackstrings.certificates import certify_always, certify_ever
from slackstrings.checker import holds_claim
from slackstrings.facts import Facts
from slackstrings.forms import Form
from slackstrings.puppets import Puppet
from slackstrings.ratios import Ratio
from slackstrings.samples import stick_man, two_lines
from slackstrings.scripts import Script
from slackstrings.stages import Stage
from slackstrings.wishes import Wish
from tests.cases import ErrorCase
from tests.papers import depth, leaves, replaced
from tests.values import LONG, Agreeing, Hostile, nested, nested_tuples, strange

FLOOR = ("floor",)
LOAD = ("part", "load", "last")
ONE_LINE = (("load",), (), "A", (("a", "A", "load"),))
LINES = (("load",), (), "AB", (("a", "A", "load"), ("b", "B", "load")))
SHORT = ("a", ((4, (("a", -1),)),))
END = ("end",)


def none(*weights):
    return ("none", weights)


def most(*papers):
    return ("most", papers)


def look(first, second):
    return ("look", first, second)


def one_line(word, wish, facts=SHORT, moves=(), start=10):
    """A claim about a load on one line."""
    return (word, (ONE_LINE, (("A", start),), moves), facts, wish)


def two(word, wish, facts=("ab", ()), moves=()):
    """A claim about a load on two lines from hooks at 10."""
    return (word, (LINES, (("A", 10), ("B", 10)), moves), facts, wish)


class CheckerCase(ErrorCase):

    def assert_held(self, claim, certificate):
        self.assertIs(holds_claim(claim, certificate), True)
        self.assertIs(holds_claim(certificate=certificate, claim=claim), True)

    def assert_not(self, claim, *certificates):
        for certificate in certificates:
            self.assertIs(holds_claim(claim, certificate), False)

    def assert_right(self, claim, paper, *others):
        """The paper shows the claim, but not the opposite one; and the other papers do not show it."""
        self.assert_held(claim, paper)
        self.assert_not(({"always": "never", "never": "always"}[claim[0]], *claim[1:]), paper)
        self.assert_not(("ever", *claim[1:]), paper)
        self.assert_not(("breach", *claim[1:]), paper)
        self.assert_not(claim, *others, paper[0], paper[1:], [*paper], (*paper, ()), (*paper, END), None)


class LengthsTest(CheckerCase):

    def test_ever_and_breach(self):
        high = ("over", LOAD, FLOOR, 7)
        told = (("a", 3, 1), ("b", 7, 2))
        facts = ("ab", ((4, (("a", -1),)), (-3, (("b", 1),))))
        self.assert_held(two("ever", high, facts), told)
        self.assert_not(two("breach", high, facts), told)
        for lengths in [(("a", 10, 3), ("b", 7, 2)), (("a", 4, 1), ("b", 31, 10))]:
            self.assert_held(two("breach", high, facts), lengths)
            self.assert_not(two("ever", high, facts), lengths)
        self.assert_held(two("ever", high, facts), (("a", 0, 1), ("b", 3, 1)))
        for word in ("always", "never"):
            self.assert_not(two(word, high, facts), told, (("a", 10, 3), ("b", 7, 2)), END)

    def test_spoilt_lengths(self):
        claim = two("ever", ("over", LOAD, FLOOR, 7), ("ab", ((4, (("a", -1),)),)))
        self.assert_held(claim, (("a", 3, 1), ("b", 7, 2)))
        self.assert_not(claim, (("b", 7, 2), ("a", 3, 1)), (("a", 3, 1),), (("a", 3, 1), ("b", 7, 2), ("c", 1, 1)), (),
                        (("a", 3, 1), ("a", 3, 1)), (("a", 3, 1), ("c", 7, 2)), [("a", 3, 1), ("b", 7, 2)],
                        (["a", 3, 1], ("b", 7, 2)), (("a", 6, 2), ("b", 7, 2)), (("a", 3, 1), ("b", 14, 4)),
                        (("a", -3, 1), ("b", 7, 2)), (("a", 3, 1), ("b", -7, -2)), (("a", 3, 1), ("b", 7, 0)),
                        (("a", 0, 2), ("b", 7, 2)), (("a", 0, 0), ("b", 7, 2)), (("a", 1, 0), ("b", 7, 2)), (("a", 3), ("b", 7, 2)),
                        (("a", 3, 1, 1), ("b", 7, 2)), (("a", True, 1), ("b", 7, 2)), (("a", 3, True), ("b", 7, 2)),
                        (("a", Ratio(3), 1), ("b", 7, 2)), (("a", "3", "1"), ("b", 7, 2)), (("a", None, 1), ("b", 7, 2)),
                        {"a": Ratio(3), "b": Ratio(7, 2)}, (("A", 3, 1), ("b", 7, 2)), (("", 3, 1), ("b", 7, 2)),
                        (("ab", 3, 1), ("b", 7, 2)), (Ratio(3), Ratio(7, 2)), (("a", 9, 2), ("b", 1, 1)), *strange())
        self.assert_held(claim, (("a", 0, 1), ("b", LONG, 1)))
        self.assert_held(claim, (("a", 1, LONG), ("b", LONG, 1)))

    def test_facts_that_are_broken(self):
        facts = ("ab", ((4, (("a", -1),)), (-9, (("a", 1), ("b", 1)))))
        claim = two("breach", ("over", LOAD, FLOOR, 7), facts)
        self.assert_held(claim, (("a", 4, 1), ("b", 5, 1)))
        self.assert_not(claim, (("a", 4, 1), ("b", 9, 2)), (("a", 5, 1), ("b", 5, 1)), (("a", 3, 1), ("b", 6, 1)))


class MostTest(CheckerCase):

    def test_levels_that_are_parts(self):
        claim = one_line("always", ("over", LOAD, FLOOR, 6))
        paper = most(none(0, 1, 1), look(END, none(0, 1, 0, 1)))
        self.assert_right(claim, paper, most(none(0, 1, 1)), most(none(0, 1, 1), look(END, none(0, 1, 0, 1)), END),
                          most(look(END, none(0, 1, 0, 1)), none(0, 1, 1)), ("most", list(paper[1])), ("most",), END,
                          most(), ("most", paper[1], ()), look(END, none(0, 1, 0, 1)), most(END, END),
                          most(none(0, 1, 1), look(none(0, 1, 0, 1), END)), most(none(0, 1, 1), END),
                          most(none(0, 1, 1), most(look(END, none(0, 1, 0, 1)))))

    def test_both_levels(self):
        # The load is at itself: on the second time it is taken anew.
        claim = one_line("always", ("over", LOAD, LOAD, 0))
        same = look(END, none(0, 0, 0, 0, 1))
        paper = most(most(same, look(END, none(0, 0, 1, 0, 1))), most(look(END, none(0, 0, 1, 0, 1)), same))
        # Where 0 is taken for X and 10 - a for Y, 10 - a is just 0.
        self.assert_right(claim, paper, most(same, same), most(most(same, same), most(same, same)))
        never = one_line("never", ("over", LOAD, LOAD, (1, 2)))
        same = look(none(0, 0, 0, 0, 1), END)
        self.assert_right(never, most(most(same, look(none(0, 0, 0, 2, 1), END)), most(look(none(0, 0, 0, 2, 1), END), same)))

    def test_several_candidates(self):
        # The other candidates come in their order, without the one that is taken.
        facts = ("ab", ((4, (("a", -1),)), (-5, (("b", 1),))))
        claim = two("always", ("over", ("part", "load", 0), ("length", "a"), 2), facts)
        first = none(0, 0, 1, 0, 1, 0)
        second = look(END, none(0, 0, 2, 0, 0, 0, 1))
        third = none(0, 0, 1, 1, 0, 1)
        self.assert_right(claim, most(first, second, third), most(second, first, third), most(first, third, second),
                          most(first, second, none(0, 0, 1, 1, 1, 0)), most(none(0, 0, 1, 0, 0, 1), second, third))

    def test_strings_without_a_distance(self):
        parts = (("hand", "foot", "flag"), (("hand", "foot", 3),), "A", (("a", "A", "hand"), ("b", "A", "flag"), ("c", "A", "foot")))
        facts = ("abc", ((1, (("a", -1),)),))
        claim = ("always", (parts, (("A", 10),), ()), facts, ("over", ("part", "foot", 0), FLOOR, 6))
        # b leads nowhere near the foot: of three strings two are left.
        paper = most(none(0, 0, 0, 1, 1, 0), look(END, none(0, 0, 0, 1, 0, 0, 1)), look(END, none(0, 0, 0, 1, 0, 1, 1)))
        self.assert_right(claim, paper, most(*paper[1], paper[1][1]), most(*paper[1][:2]))


class HaulsTest(CheckerCase):

    def test_lift(self):
        claim = one_line("always", ("over", ("hook", "A", 1), ("length", "a"), 0), ("a", ()), (("lift", "A", "load"),))
        floor = most(look(END, none(0, 0, 1)))
        held = most(look(END, none(0, 1, 1)))
        paper = most(floor, held)
        # What the hook holds the load at has just one candidate, and comes all the same.
        self.assert_right(claim, paper, most(floor[1][0], held[1][0]), most(most(floor), most(held)), most(held, floor),
                          floor, most(floor), most(most(floor[1][0], held[1][0])), look(END, none(0, 1)))

    def test_what_a_lift_does(self):
        moves = (("move", "A", 3), ("lift", "A", "load"), ("move", "A", 2))
        # The load was on the floor if a is longer than 13; the hook comes to a, and then goes up by 2.
        long = ("a", ((-14, (("a", 1),)),))
        claim = one_line("always", ("over", ("hook", "A", 3), ("length", "a"), 2), long, moves)
        paper = most(most(look(END, none(0, 0, 0, 1))), none(0, 1, 1))
        self.assert_right(claim, paper, most(most(look(END, none(0, 0, 0, 0))), none(0, 1, 1)))
        after = one_line("always", ("over", ("part", "load", "last"), FLOOR, 2), long, moves)
        self.assert_right(after, most(most(most(none(0, 0, 0, 1), look(END, none(0, 0, 0, 0, 1)))), none(0, 1, 1)))
        not_yet = one_line("always", ("over", ("hook", "A", 2), ("length", "a"), 2), long, moves)
        self.assert_not(not_yet, paper)

    def test_ease(self):
        moves = (("ease", "A", "load"),)
        facts = ("ab", ((4, (("a", -1),)), (-5, (("b", 1),)), (9, (("b", -1),))))
        claim = two("always", ("over", ("length", "b"), ("length", "a"), 1), facts, moves)
        ending = look(END, none(0, 0, 1, 1, 0, 0, 0, 0, 1))
        paper = most(none(0, 0, 1, 0, 0, 1, 0), most(none(0, 0, 0, 0, 1, 0, 0, 1), ending), none(0, 0, 1, 1, 0, 0, 1))
        self.assert_right(claim, paper, most(none(0, 0, 1, 0, 0, 1, 0), ending, none(0, 0, 1, 1, 0, 0, 1)))
        # A comes to 10 + (10 - b) - (10 - a), so that it is no higher than 10.
        low = two("always", ("over", FLOOR, ("hook", "A", 1), -9), facts, moves)
        ending = look(END, none(0, 0, 1, 1, 0, 0, 0, 0, 1))
        self.assert_right(low, most(none(0, 0, 1, 0, 0, 1, 0), most(none(0, 0, 0, 0, 1, 0, 0, 1), ending), none(0, 0, 1, 1, 0, 0, 1)))

    def test_hold(self):
        moves = (("hold", "A", "load", 8),)
        facts = ("a", ((-3, (("a", 1),)),))
        claim = one_line("always", ("over", ("hook", "A", 1), ("length", "a"), 8), facts, moves)
        # First what A holds the load at, just 10 - a; then 0, or 8 less that.
        paper = most(most(none(0, 1, 1), look(END, none(0, 0, 0, 1))))
        self.assert_right(claim, paper, most(none(0, 1, 1), look(END, none(0, 0, 0, 1))), most(most(look(END, none(0, 0, 0, 1)), none(0, 1, 1))))
        short = one_line("always", ("over", ("hook", "A", 1), ("length", "a"), 8), ("a", ()), moves)
        self.assert_right(short, most(most(look(END, none(0, 1, 1)), look(END, none(0, 0, 1)))))

    def test_hauls_are_walked_through_though_nobody_asks_for_them(self):
        claim = one_line("always", ("over", ("length", "a"), FLOOR, 0), ("a", ()), (("lift", "A", "load"), ("hold", "A", "load", 3)))
        ending = look(END, none(1, 0, 0, 1))
        paper = most(most(most(most(ending, ending))), most(most(most(ending, ending))))
        self.assert_right(claim, paper, ending, most(most(ending), most(ending)), look(END, none(1, 1)))


class NoneTest(CheckerCase):

    def test_weights(self):
        claim = one_line("always", ("over", LOAD, FLOOR, 6))
        rest = look(END, none(0, 1, 0, 1))
        for weights in [(0, 1, 1), (0, 2, 2), (0, LONG, LONG)]:
            self.assert_held(claim, most(none(*weights), rest))
        for weights in [(0, 1), (0, 1, 1, 0), (), (0, 1, 0), (1, 1, 1), (0, 2, 1), (0, 0, 0), (0, -1, -1), (0, 1, -1),
                        (0, True, 1), (False, 1, 1), (0, 1, Ratio(1)), (0, 1, "1"), (0, 1, None), (0, 1, Hostile()),
                        (0, 1, Agreeing()), (0, 0, 1), (1, 0, 0)]:
            self.assert_not(claim, most(("none", weights), rest))
        self.assert_not(claim, most(("none", [0, 1, 1]), rest), most(("none", 0, 1, 1), rest), most(("none",), rest),
                        most(("none", (0, 1, 1), ()), rest), most(("None", (0, 1, 1)), rest), most(((0, 1, 1),), rest))

    def test_a_sum_of_0(self):
        claim = one_line("always", ("over", LOAD, FLOOR, 6))
        self.assert_held(claim, most(none(0, 1, 1), look(END, none(0, 1, 0, 1))))
        self.assert_held(claim, most(none(0, 1, 1), look(END, none(0, 3, 0, 3))))
        # A length that is just 4 is not against the conditions; with the strict one it is.
        just = ("a", ((4, (("a", -1),)), (-4, (("a", 1),))))
        four = one_line("always", ("over", LOAD, FLOOR, 6), just)
        self.assert_not(four, none(0, 1, 1), most(none(0, 1, 0, 1), none(0, 1, 1, 0)),
                        most(none(0, 1, 0, 1), look(END, none(0, 1, 1, 0, 0))))
        self.assert_held(four, most(none(0, 1, 0, 1), look(END, none(0, 1, 0, 0, 1))))
        self.assert_held(four, most(none(0, 1, 0, 1), look(END, none(0, 2, 1, 0, 1))))
        self.assert_not(four, most(none(0, 1, 0, 1), look(END, none(0, 1, 1, 0, 1))))

    def test_a_sum_below_0_with_a_strict_condition(self):
        claim = one_line("always", ("over", LOAD, FLOOR, 5))
        self.assert_held(claim, most(none(0, 1, 1), look(END, none(0, 1, 0, 1))))

    def test_conditions_of_candidates_are_not_strict(self):
        # Just at 10 the load is on the floor, and held there as well: neither is against the facts.
        claim = one_line("always", ("over", LOAD, FLOOR, 1), ("a", ((-10, (("a", 1),)),)))
        self.assert_not(claim, most(none(0, 0, 0), none(0, 1, 1)), most(none(0, 1, 1), none(0, 1, 1)))
        never = ("never", *claim[1:])
        held = look(none(0, 1, 0, 1), END)
        self.assert_right(never, most(look(none(0, 0, 0, 1), END), held), most(look(none(0, 0, 0, 1), END), none(0, 1, 1)))

    def test_a_single_condition(self):
        claim = one_line("always", ("over", ("length", "a"), FLOOR, 0), ("a", ()))
        self.assert_not(claim, none(0), none(1), none(), none(0, 0))

    def test_facts_that_no_lengths_keep(self):
        apart = ("a", ((4, (("a", -1),)), (-5, (("a", 1),))))
        for word in ("always", "never"):
            for wish in (("over", LOAD, FLOOR, 6), ("over", FLOOR, FLOOR, 1), ("not", ("over", LOAD, FLOOR, 0))):
                for moves in ((), (("lift", "A", "load"),)):
                    claim = one_line(word, wish, apart, moves)
                    self.assert_held(claim, none(0, 1, 1))
                    self.assert_held(claim, none(0, 7, 7))
                    self.assert_not(claim, none(0, 1, 0), none(1, 1, 1), END, (("a", 4, 1),))
        for word in ("ever", "breach"):
            self.assert_not(one_line(word, ("over", LOAD, FLOOR, 6), apart), none(0, 1, 1), (("a", 4, 1),), (("a", 5, 1),))


class LookTest(CheckerCase):

    def test_fractions(self):
        # The form is taken by the bottom of c, in which 7/3 leaves integers: 3 times 10 - a, less 23.
        claim = one_line("always", ("over", LOAD, FLOOR, (23, 4)))
        self.assert_right(claim, most(none(0, 1, 1), look(END, none(0, 4, 0, 1))), most(none(0, 1, 1), look(END, none(0, 1, 0, 1))))
        exact = one_line("always", ("over", LOAD, FLOOR, (23, 3)), ("a", ((7, (("a", -3),)),)))
        self.assert_right(exact, most(none(0, 1, 3), look(END, none(0, 1, 0, 1))), most(none(0, 1, 3), look(END, none(0, 3, 0, 1))))
        below = one_line("never", ("over", FLOOR, LOAD, (-7, 2)), SHORT)
        self.assert_right(below, most(none(0, 1, 1), look(none(0, 2, 0, 1), END)))

    def test_levels_that_are_no_parts(self):
        claim = one_line("always", ("over", ("hook", "A", 0), ("length", "a"), 6))
        self.assert_right(claim, look(END, none(0, 1, 1)), most(look(END, none(0, 1, 1))), look(none(0, 1, 1), END), look(END, END),
                          ("look", END), ("look", (END, none(0, 1, 1))), look(END, none(0, 1)))
        floor = one_line("never", ("over", FLOOR, FLOOR, 1))
        self.assert_right(floor, look(none(0, 0, 1), END), look(END, none(0, 0, 1)))
        self.assert_held(one_line("always", ("over", FLOOR, FLOOR, 0)), look(END, none(0, 0, 1)))
        self.assert_held(one_line("always", ("over", FLOOR, FLOOR, -1)), look(END, none(0, 0, 1)))

    def test_several_looks(self):
        both = ("and", ("over", ("length", "a"), FLOOR, 0), ("over", FLOOR, ("length", "a"), -4))
        claim = one_line("always", both)
        paper = look(look(END, none(0, 1, 0, 1)), none(1, 0, 1))
        self.assert_right(claim, paper, look(END, none(1, 0, 1)), look(look(END, none(0, 1, 0, 1)), END))
        # A paper may go on where it might have come to its end.
        self.assert_held(claim, look(look(END, none(0, 1, 0, 1)), look(none(1, 0, 1, 0), none(1, 0, 1, 0))))


class EndTest(CheckerCase):

    def test_where_the_wish_is_settled(self):
        true, other = ("over", ("length", "a"), FLOOR, 0), ("over", LOAD, FLOOR, 7)
        rows = [(("or", true, other), True), (("and", true, other), None), (("if", true, other), None),
                (("and", ("or", true, other), other), None), (("not", ("not", ("or", true, other))), True),
                (("not", ("or", true, other)), False), (("if", ("not", true), other), True),
                (("and", ("not", true), other), False), (("or", ("and", true, other), true), None),
                (("or", ("if", ("not", true), other), other), True), (("and", ("not", true), true, true, other), False)]
        for wish, settled in rows:
            for word, expected in (("always", True), ("never", False)):
                # The first look is taken, and nothing else.
                self.assertIs(holds_claim(one_line(word, wish), look(END, none(1, 0, 1))), settled is expected)

    def test_not_ahead_of_the_moves(self):
        claim = one_line("always", ("over", FLOOR, FLOOR, 0), SHORT, (("lift", "A", "load"),))
        ending = look(END, none(0, 0, 0, 1))
        self.assert_right(claim, most(most(ending), most(ending)), END, most(END, END), most(most(END), most(END)))

    def test_at_any_place_behind_a_look(self):
        # Behind the first look there come a greatest one and another look: the end may stand ahead of each.
        wish = ("or", ("over", ("length", "a"), FLOOR, 0), ("over", LOAD, LOAD, 1))
        claim = one_line("always", wish)
        second = none(1, 0, 1)
        for first in (END, most(END, END), most(most(END, END), END), most(END, most(END, look(END, END)))):
            self.assert_held(claim, look(first, second))
            self.assert_not(claim, look(most(first), second), look(look(first, first), second))

    def test_two_equal_overs(self):
        same = ("over", ("length", "a"), FLOOR, 1)
        claim = one_line("always", ("or", same, ("not", same)))
        first = look(END, look(none(0, 0, 1, 1), END))
        # Each over counts by itself: that one is false does not settle the other one.
        self.assert_right(claim, first, look(END, END), look(END, look(END, none(0, 0, 1, 1))))
        never = one_line("never", ("and", same, ("not", same)))
        self.assert_right(never, look(look(END, none(0, 0, 1, 1)), END), look(END, END))
        part = ("over", LOAD, FLOOR, 9)
        twice = one_line("always", ("or", part, ("not", part)))
        inner = most(none(0, 1, 0, 0, 1), look(none(0, 0, 0, 1, 0, 1), END))
        self.assert_right(twice, most(none(0, 1, 1), look(END, inner)))

    def test_at_the_end_of_the_walk(self):
        claim = one_line("always", ("over", ("length", "a"), FLOOR, 1))
        self.assert_not(claim, look(END, END), look(END, look(END, END)), look(END, most(END)), look(END, most()),
                        look(END, none(0, 0, 0)), look(END, none(0, 1, 1)))
        self.assert_held(one_line("always", ("over", ("length", "a"), FLOOR, 0)), look(END, none(1, 0, 1)))


class ClaimsTest(CheckerCase):

    def claims(self):
        """Claims of all kinds, with their certificates."""
        script = Script(stick_man(), {"B": 20, "F": -3, "H": 20}, (("lift", "F", "foot"), ("move", "FH", -2), ("hold", "B", "hand", 9)))
        facts = Facts("abc", (Form(15, (("a", -1), ("b", 2))), Form(-7, (("c", 3),))))
        texts = ["(and (over foot@last floor 0) (over B@1 B@0 0))", "(if (over a b 7/2) (not (over F@2 c 99)))",
                 "(or (over hand@3 hand@0 -30) (over c c 1))", "(not (over floor hand@3 5/2))"]
        for text in texts:
            for act in (certify_always, certify_ever):
                yield act(script, facts, Wish.read(text))
        lines = Script(two_lines(), {"A": 1, "B": 2})
        for text in ("(over load@0 floor 0)", "(over load@0 floor 1/2)", "(over load@0 floor 3)"):
            for act in (certify_always, certify_ever):
                yield act(lines, Facts("ab"), Wish.read(text))

    def test_values_of_every_kind(self):
        random = Random(1)
        several = set()
        values = [value for value in strange() if not isinstance(value, (tuple, int, str)) or isinstance(value, bool)]
        things = [Ratio(1), Form(1), Facts("a"), two_lines(), Script(two_lines(), {"A": 1, "B": 2}), Wish.read("(over a a 0)"),
                  Stage(two_lines(), Facts("ab"), {"A": 1, "B": 2}), nested(20), Hostile(), Agreeing(), {}, [], set()]
        for claim, certificate in self.claims():
            several.add(claim[0])
            self.assert_held(claim, certificate)
            for value in [*strange(), *things, (claim, certificate), claim[::-1], nested_tuples(19), nested_tuples(60)]:
                self.assert_not(value, certificate, value)
                self.assert_not(claim, value)
            for path, _ in leaves(claim):
                for value in random.sample([*values, *things], 4):
                    self.assert_not(replaced(claim, path, value), certificate)
            places = [path for path, _ in leaves(certificate)]
            for path in random.sample(places, min(len(places), 60)):
                for value in random.sample([*values, *things], 4):
                    self.assert_not(claim, replaced(certificate, path, value))
        self.assertEqual(several, {"always", "never", "ever", "breach"})

    def test_each_clause_of_the_form(self):
        claim = one_line("always", ("over", LOAD, FLOOR, 6))
        paper = most(none(0, 1, 1), look(END, none(0, 1, 0, 1)))
        self.assert_held(claim, paper)
        rows = [((0,), ["Always", "alway", "", "not", "always ", ("always",), None, 0]),
                ((1,), [claim[1][:2], (*claim[1], ()), [*claim[1]], (claim[1],), ()]),
                ((1, 0), [ONE_LINE[:3], (*ONE_LINE, ()), [*ONE_LINE], ()]),
                ((1, 0, 0), [(), ("load", "load"), ("Load",), "load", ["load"], ("l",), ("load", 7)]),
                ((1, 0, 1), [(("load", "load", 3),), (("load", "foot", 3),), [], None, (("load",),), (("load", "load", -1),)]),
                ((1, 0, 2), ["", "a", "AA", "BA", ("A",), None, "ABCDE", "B"]),
                ((1, 0, 3), [(), (("a", "A", "foot"),), (("A", "A", "load"),), (("a", "B", "load"),), (("a", "A"),),
                             (("a", "A", "load"),) * 2, [("a", "A", "load")], ("a", "A", "load")]),
                ((1, 1), [(), (("A", 10), ("B", 10)), (("B", 10),), (("A", 10),) * 2, [("A", 10)], ("A", 10), {"A": 10},
                          (["A", 10],), (("A", 10, 0),), (("A", Ratio(10)),), (("A", True),), (("A", 10 ** 6 + 1),), (("A",),), ((10, "A"),)]),
                ((1, 2), [[], None, (None,), (("move", "B", 1),), ("move", "A", 1), (("lift", "A", "load"),) * 4,
                          (("move", "A", 0),) * 7, (["move", "A", 0],), (("move", "A", Ratio(0)),)]),
                ((2,), [(*SHORT, ()), SHORT[:1], ("a", (), ()), ["a", ()], (), ("a", None), "a"]),
                ((2, 0), ["", "b", "ab", "A", ("a",), None, "aa"]),
                ((2, 1), [None, [], ((4, (("b", -1),)),), ((4,),), ((4, (("a", -1),), ()),), ((Ratio(4), (("a", -1),)),), (4, (("a", -1),)),
                          ((4, (("a", 0),)),), ((4, [("a", -1)]),), ((4, (("a", -1), ("a", -1))),), ((4, (("a", -1),)),) * 9,
                          ((True, (("a", -1),)),), (Form(4, (("a", -1),)),), ([4, (("a", -1),)],)]),
                ((3,), [("over", LOAD, FLOOR), ("over", LOAD, FLOOR, (12, 2)), ("over", LOAD, FLOOR, (6, 1)), None,
                        ("over", LOAD, FLOOR, Ratio(6)), ("over", ("part", "foot", 0), FLOOR, 6), [*claim[3]],
                        ("over", ("part", "load", 1), FLOOR, 6), ("over", ("part", "load", 7), FLOOR, 6), ("under", LOAD, FLOOR, 6),
                        ("over", ("length", "b"), FLOOR, 6), ("over", ("hook", "B", 0), FLOOR, 6), Wish(claim[3]), str(Wish(claim[3])),
                        ("and", claim[3]), ("over", LOAD, FLOOR, True), ("over", [*LOAD], FLOOR, 6)])]
        for path, values in rows:
            for value in values:
                self.assert_not(replaced(claim, path, value), paper)
        for value in [claim[:3], (*claim, ()), [*claim], ("always", claim[1:])]:
            self.assert_not(value, paper)

    def test_scripts_that_are_none(self):
        # A hook without a way, and more hauls than are allowed.
        puppet = (("load", "flag"), (), "AB", (("a", "A", "load"),))
        wish = ("over", ("length", "a"), FLOOR, 0)
        for moves, held in [((), True), ((("move", "B", 1),), True), ((("lift", "B", "load"),), False), ((("lift", "A", "flag"),), False)]:
            claim = ("always", (puppet, (("A", 10), ("B", 10)), moves), ("a", ()), wish)
            self.assertIs(holds_claim(claim, look(END, none(1, 1))), held)
        # Too many overs, and too deep ones.
        self.assert_held(one_line("always", ("or", wish, wish), ("a", ())), look(END, none(1, 1)))
        deep = wish
        for _ in range(4):
            deep = ("not", deep)
        self.assert_held(one_line("always", deep, ("a", ())), look(END, none(1, 1)))
        self.assert_not(one_line("never", ("not", deep), ("a", ())), look(END, none(1, 1)))
        eight = ("or", ("or", *[wish] * 6), wish, wish)
        self.assert_held(one_line("always", eight, ("a", ())), look(END, none(1, 1)))
        self.assert_not(one_line("always", ("or", eight, wish), ("a", ())), look(END, none(1, 1)))

    def test_names_that_are_not_the_strings(self):
        wish = ("over", ("length", "a"), FLOOR, 0)
        for names, held in [("ab", True), ("a", False), ("abc", False), ("ac", False), ("ba", False)]:
            size = len(names)
            claim = two("always", wish, (names, ()))
            self.assertIs(holds_claim(claim, look(END, none(*[1, *[0] * (size - 1)], 1))), held)

    def test_deep_certificates(self):
        # Three hauls and eight overs of two parts each lead down to papers within papers.
        overs = [("over", LOAD, LOAD, 0)] * 6
        script = Script(Puppet(*ONE_LINE), {"A": 10}, (("lift", "A", "load"), ("hold", "A", "load", 3), ("ease", "A", "load")))
        claim, paper = certify_always(script, Facts("a", (Form(4, (("a", -1),)),)), Wish(("and", *overs)))
        self.assertGreater(depth(paper), 25)
        self.assert_held(claim, paper)
        self.assert_not(paper, claim)
        self.assert_not(claim, nested_tuples(90), (paper,), most(paper), look(paper, paper))
