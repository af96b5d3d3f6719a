"""Tests of slackstrings.wishes and slackstrings.levels."""

from fractions import Fraction
from random import Random

from slackstrings.errors import InvalidText, InvalidWish, NotARun, NotAScript, NotAWish
from slackstrings.ratios import Ratio
from slackstrings.samples import stick_man, two_lines
from slackstrings.scripts import Script
from slackstrings.wishes import Wish
from tests.cases import ErrorCase, as_fraction, drawn_puppet, drawn_script, drawn_wish, drawn_wish_form, level_in
from tests.values import LONG, NINES, Agreeing, Hostile, others, strange

FLOOR = ("floor",)
OVER = ("over", ("part", "foot", 2), ("length", "a"), (-3, 2))
HIGH = ("over", ("hook", "A", 0), FLOOR, 7)
LEVELS = [FLOOR, ("hook", "A", 0), ("hook", "Z", 6), ("hook", "M", "last"), ("part", "ab", 0), ("part", "elbowsss", 6),
          ("part", "floor", "last"), ("part", "last", 3), ("length", "a"), ("length", "z")]
SURPLUSES = [0, 1, -1, 7, -3, 10 ** 12, LONG, -NINES, (7, 2), (-3, 2), (1, 3), (-LONG, 97), (1, NINES), (NINES, LONG + 1)]
SCRIPT = Script(stick_man(), {"B": 20, "F": 20, "H": 20}, (("lift", "F", "foot"), ("move", "F", 5)))


def row_of(word, *forms):
    return (word, *forms)


def deep(levels, inner=HIGH):
    """The form of a wish in which inner lies so deep."""
    for _ in range(levels):
        inner = ("not", inner)
    return inner


def text_of(form):
    """The text of a wish, put together by hand."""
    if form[0] != "over":
        return "(" + " ".join([form[0], *map(text_of, form[1:])]) + ")"
    surplus = form[3] if isinstance(form[3], int) else "/".join(map(str, form[3]))
    return " ".join(["(over", *[level_text(level) for level in form[1:3]], f"{surplus})"])


def level_text(level):
    if level == FLOOR:
        return "floor"
    return level[1] if level[0] == "length" else "@".join(map(str, level[1:]))


def holds_by_hand(form, run):
    """Whether a wish holds in a run."""
    if form[0] == "over":
        surplus = Fraction(form[3]) if isinstance(form[3], int) else Fraction(*form[3])
        first, second = [as_fraction(level_in(level, run)) for level in form[1:3]]
        return first >= second + surplus
    truths = [holds_by_hand(each, run) for each in form[1:]]
    return {"not": lambda: not truths[0], "and": lambda: all(truths), "or": lambda: any(truths),
            "if": lambda: truths[1] or not truths[0]}[form[0]]()


def good_forms():
    """Forms of wishes of every kind."""
    overs = [("over", first, second, 0) for first in LEVELS for second in LEVELS]
    overs += [("over", FLOOR, ("length", "b"), surplus) for surplus in SURPLUSES]
    rows = [row_of(word, *[HIGH] * many) for word in ("and", "or") for many in range(2, 7)]
    big = row_of("and", row_of("or", *[OVER] * 6), HIGH, HIGH)
    return [*overs, *rows, ("not", OVER), ("if", OVER, HIGH), ("not", OVER), *[deep(many) for many in range(5)],
            big, ("not", ("not", ("not", ("if", OVER, HIGH)))), ("if", ("and", *[HIGH] * 4), ("or", *[OVER] * 4))]


def spoilt_levels():
    """What is nearly a level, or not at all."""
    moments = [7, -1, 10, LONG, True, False, None, "first", "0", "", "Last", Ratio(1), (1,), Hostile(), Agreeing()]
    hooks = ["", "a", "AB", "1", "\u00c4", None, 1, ("A",), Hostile(), Agreeing()]
    parts = ["", "a", "ninechars", "Foot", "fo ot", "foot1", "f\u00f6\u00f6t", "fo@ot", None, 1, Hostile(), Agreeing()]
    names = ["", "A", "ab", "1", "\u00e9", " ", None, 1, ("a",), Hostile(), Agreeing()]
    return [("floor", 0), ("floor", "last"), ("hook", "A"), ("hook",), ("part", "foot"), ("part", "foot", 0, 0),
            ("hook", "A", 0, 0), ("length",), ("length", "a", 0), ("foot", 0), ("Floor",), ("string", "a"), [*FLOOR],
            ("part", "A", 0), ("hook", "foot", 0), ("string", "A", 0), ("tie", "foot", 0),
            ["length", "a"], "floor", "a", "foot@0", *[("hook", "A", each) for each in moments],
            *[("part", "foot", each) for each in moments], *[("hook", each, 0) for each in hooks],
            *[("part", each, 0) for each in parts], *[("length", each) for each in names], *strange()]


def spoilt_forms():
    """What is nearly the form of a wish, or not at all."""
    surpluses = [(4, 2), (2, 4), (0, 2), (3, 1), (0, 1), (3, 0), (3, -2), (-3, -2), (1,), (1, 2, 3), [1, 2], "1", "1/2",
                 Ratio(1), Ratio(1, 2), (Ratio(1), 2), (True, 2), (1, True), (1, None), (None, 2), (1, "2"), (1, Ratio(2)), True, False, None, Hostile(), Agreeing()]
    for surplus in [*surpluses, *[value for value in strange() if type(value) not in (int, tuple)]]:
        yield ("over", FLOOR, FLOOR, surplus)
    for level in spoilt_levels():
        yield ("over", level, FLOOR, 0)
        yield ("over", FLOOR, level, 0)
    for word in ("and", "or"):
        yield from [(word,), (word, HIGH), (word, *[HIGH] * 7), (word, HIGH, None), (word, [*HIGH], HIGH)]
        yield from [(word, HIGH, ("over", FLOOR, FLOOR)), (word, (HIGH, HIGH))]
    yield from [("not",), ("not", HIGH, HIGH), ("not", None), ("if", HIGH), ("if", HIGH, HIGH, HIGH), ("if",)]
    yield from [("over", FLOOR, FLOOR), ("over", FLOOR, FLOOR, 0, 0), ("over",), [*HIGH], ("Over", FLOOR, FLOOR, 0)]
    yield from [("then", HIGH, HIGH), ("under", FLOOR, FLOOR, 0), ("", HIGH), (HIGH,), (HIGH, HIGH), (None, HIGH)]
    yield from [(Hostile(), HIGH), (Agreeing(), HIGH), (Agreeing(), FLOOR, FLOOR, 0), (b"not", HIGH), text_of(HIGH)]
    yield from [deep(5), deep(4, ("and", HIGH, HIGH)), ("or", HIGH, deep(4)), deep(5, OVER), deep(15)]
    yield from [row_of("and", row_of("or", *[HIGH] * 6), *[HIGH] * 3), ("if", ("and", *[HIGH] * 4), ("or", *[HIGH] * 5))]
    yield from strange()


class MakingTest(ErrorCase):

    def test_forms(self):
        for form in good_forms():
            wish = Wish(form)
            self.assertIs(wish.form, form)
            self.assertIs(Wish(form=form).form, form)
            self.assertTrue(wish)

    def test_forms_that_are_none(self):
        for form in spoilt_forms():
            self.assert_refused(InvalidWish, form, Wish, form)
            self.assert_refused(InvalidWish, form, Wish, form=form)
            # Within another one it is no better.
            for outer in [("not", form), ("and", HIGH, form), ("if", form, HIGH)]:
                self.assert_refused(InvalidWish, outer, Wish, outer)

    def test_a_form_that_was_right_within_less(self):
        self.assertEqual(Wish(("or", HIGH, deep(3))).form[2], deep(3))
        self.assert_refused_alike(InvalidWish, ("or", HIGH, deep(4)), Wish, ("or", HIGH, deep(4)))
        eight = ("and", *[("or", HIGH, OVER)] * 4)
        self.assertEqual(Wish(eight).form, eight)
        self.assert_refused_alike(InvalidWish, (*eight, HIGH), Wish, (*eight, HIGH))

    def test_equality(self):
        forms = good_forms()
        for form in forms:
            for other in forms:
                self.assertIs(Wish(form) == Wish(other), form == other)
                self.assertIs(Wish(form) != Wish(other), form != other)
        for value in [*strange(), HIGH, text_of(HIGH)]:
            self.assertIs(Wish(HIGH) == value, False)
            self.assertIs(Wish(HIGH) != value, True)


class TextTest(ErrorCase):

    def test_told_texts(self):
        rows = {
            "(not (over foot@2 a -3/2))": ("not", OVER), "(over A@0 floor 7)": HIGH,
            "(and (over A@0 floor 7) (over foot@2 a -3/2))": ("and", HIGH, OVER),
            "(or (over A@0 floor 7) (over A@0 floor 7) (not (over foot@2 a -3/2)))": ("or", HIGH, HIGH, ("not", OVER)),
            "(if (over floor floor 0) (over z foot@last 1/3))":
                ("if", ("over", FLOOR, FLOOR, 0), ("over", ("length", "z"), ("part", "foot", "last"), (1, 3))),
            "(over floor@last last@6 -10)": ("over", ("part", "floor", "last"), ("part", "last", 6), -10),
        }
        for text, form in rows.items():
            self.assertEqual(str(Wish(form)), text)
            self.assertIs(type(str(Wish(form))), str)
            self.assertEqual(Wish.read(text).form, form)
            self.assertEqual(Wish.read(text=text), Wish(form))

    def test_there_and_back(self):
        for form in good_forms():
            self.assertEqual(str(Wish(form)), text_of(form))
            self.assertEqual(Wish.read(text_of(form)).form, form)
            self.assertEqual(Wish(HIGH).read(text_of(form)), Wish(form))
        random = Random(1)
        for _ in range(200):
            script = drawn_script(random, drawn_puppet(random, 5, 5, 4), 6, 3)
            wish = drawn_wish(random, script, depth=4, overs=8)
            self.assertEqual(str(wish), text_of(wish.form))
            self.assertEqual(Wish.read(str(wish)), wish)

    def test_forms_with_the_texts_of_right_ones_are_kept_apart(self):
        for text in ["(over foot@2 a 0)", "(over floor floor 1/2)"]:
            form = Wish.read(text).form
            self.assertIs(type(form), tuple)
            self.assertTrue(all(type(level) is tuple for level in form[1:3]))
        self.assertEqual(Wish.read("(over foot@2 a 0)").form[1], ("part", "foot", 2))
        self.assertIs(type(Wish.read("(over foot@2 a 0)").form[1][2]), int)
        self.assertIs(type(Wish.read("(over foot@2 a 0)").form[3]), int)

    def test_texts_that_are_nearly_right(self):
        texts = ["", " ", "()", "(", ")", "floor", "over", "(over)", "(over )", "over A@0 floor 7", "(over A@0 floor 7",
                 "over A@0 floor 7)", "(over A@0 floor 7))", "((over A@0 floor 7)", "((over A@0 floor 7))",
                 "(over A@0 floor 7) ", " (over A@0 floor 7)", "( over A@0 floor 7)", "(over A@0 floor 7 )",
                 "(over  A@0 floor 7)", "(over A@0  floor 7)", "(over A@0 floor  7)", "(over A@0\tfloor 7)",
                 "(over A@0 floor 7)\n", "(over A@0 floor 7)(over A@0 floor 7)", "(over A@0 floor 7) (over A@0 floor 7)",
                 "(over A@0 floor)", "(over A@0 floor 7 7)", "(over A@0 7 floor)", "(over A@0 floor seven)",
                 "(Over A@0 floor 7)", "(OVER A@0 floor 7)", "(over A@0 Floor 7)", "(over A@Last floor 7)",
                 "(over A@7 floor 7)", "(over A@-1 floor 7)", "(over A@00 floor 7)", "(over A@06 floor 7)",
                 "(over A@+1 floor 7)", "(over A@ floor 7)", "(over @0 floor 7)", "(over A@0@0 floor 7)",
                 "(over A floor 7)", "(over foot floor 7)", "(over a@0 floor 7)", "(over AB@0 floor 7)",
                 "(over Foot@0 floor 7)", "(over ninechars@0 floor 7)", "(over A @0 floor 7)", "(over A@ 0 floor 7)",
                 "(over ab floor 7)", "(over 0 floor 7)", "(over \u00e9 floor 7)", "(over foot@\u0662 floor 7)",
                 "(over A@0 floor +7)", "(over A@0 floor +3)", "(over A@0 floor -0)", "(over A@0 floor 07)",
                 "(over A@0 floor 4/2)", "(over A@0 floor 2/4)", "(over A@0 floor 7/1)", "(over A@0 floor 0/2)",
                 "(over A@0 floor 1/0)", "(over A@0 floor 1/-2)", "(over A@0 floor 7/ 2)", "(over A@0 floor 7.5)",
                 "(over A@0 floor -)", "(over A@0 floor 1_0)", "(over A@0 floor \u0667)", "(over A@0 floor ())",
                 "(over A@0 (floor) 7)", "(over (A 0) floor 7)", "(not)", "(not )", "(not A@0)", "(not floor)",
                 "(not(over A@0 floor 7))", "(not (over A@0 floor 7) )", "(not  (over A@0 floor 7))",
                 "(not (over A@0 floor 7) (over A@0 floor 7))", "(Not (over A@0 floor 7))", "not (over A@0 floor 7)",
                 "(and (over A@0 floor 7))", "(and (over A@0 floor 7)(over A@0 floor 7))", "(if (over A@0 floor 7))",
                 "(AND (over A@0 floor 7) (over A@0 floor 7))", "(and (over A@0 floor 7), (over A@0 floor 7))",
                 "[over A@0 floor 7]", "(over, A@0, floor, 7)", "('over' A@0 floor 7)", "(nor (over A@0 floor 7))"]
        for text in texts:
            self.assert_refused(InvalidText, text, Wish.read, text)
            self.assert_refused(InvalidText, text, Wish.read, text=text)

    def test_texts_of_spoilt_forms(self):
        for form in [deep(5), deep(6), deep(15), row_of("and", *[HIGH] * 7), row_of("or", row_of("and", *[HIGH] * 6), HIGH,
                     HIGH, HIGH), deep(4, ("and", HIGH, HIGH)), ("and", HIGH), ("over", ("hook", "A", 7), FLOOR, 1)]:
            self.assert_refused_alike(InvalidText, text_of(form), Wish.read, text_of(form))

    def test_many_brackets(self):
        for text in ["(" * 1000, ")" * 1000, "()" * 1000, "(" * 1000 + ")" * 1000, "(not " * 400, "( " * 1000,
                     "(not " * 300 + text_of(HIGH) + ")" * 300, "(and " + "(" * 1900, "(" * 2000]:
            self.assert_refused(InvalidText, text, Wish.read, text)

    def test_texts_with_signs_put_in_left_out_or_exchanged(self):
        right = {text_of(form) for form in good_forms()}
        for text in ["(over A@0 floor -7/2)", "(not (over a foot@last 3))"]:
            for at in range(len(text) + 1):
                for sign in ["(", ")", " ", "@", "/", "-", "0", "1", "a", "A", "\n"]:
                    for changed in [text[:at] + sign + text[at:], text[:at] + sign + text[at + 1:],
                                    text[:at] + text[at + 1:]]:
                        self.assert_read_or_refused(changed, right)

    def assert_read_or_refused(self, text, right):
        """Whatever is read has just this text; and a form that has it would have been found."""
        try:
            wish = Wish.read(text)
        except InvalidText as error:
            self.assertIs(error.value, text)
            self.assertNotIn(text, right)
        else:
            self.assertEqual(str(wish), text)
            self.assertEqual(text_of(wish.form), text)

    def test_texts_of_other_kinds(self):
        for value in [*others(), 7, LONG, Ratio(7), HIGH, ["(over A@0 floor 7)"], Wish(HIGH), (text_of(HIGH),)]:
            self.assert_refused(InvalidText, value, Wish.read, value)
            self.assert_refused(InvalidText, value, Wish.read, text=value)


class JoiningTest(ErrorCase):

    def test_joined(self):
        one, other = Wish(HIGH), Wish(OVER)
        self.assertEqual(one.both(other).form, ("and", HIGH, OVER))
        self.assertEqual(one.either(other).form, ("or", HIGH, OVER))
        self.assertEqual(one.implies(other).form, ("if", HIGH, OVER))
        self.assertEqual(one.denied().form, ("not", HIGH))
        self.assertEqual([one.both(other=other), one.either(other=other), one.implies(other=other)],
                         [one.both(other), one.either(other), one.implies(other)])
        self.assertEqual([one.form, other.form], [HIGH, OVER])

    def test_no_wishes(self):
        wish = Wish(deep(4))
        for value in [*strange(), HIGH, text_of(HIGH), Wish]:
            for act in (wish.both, wish.either, wish.implies):
                self.assert_refused(NotAWish, value, act, value)
                self.assert_refused(NotAWish, value, act, other=value)

    def test_forms_that_would_be_none(self):
        four, five = Wish(("and", *[HIGH] * 4)), Wish(("or", *[OVER] * 5))
        self.assertEqual(four.both(four).form, ("and", four.form, four.form))
        for one, other in [(four, five), (five, four), (Wish(deep(4)), four), (four, Wish(deep(4)))]:
            self.assert_refused_alike(InvalidWish, ("and", one.form, other.form), one.both, other)
            self.assert_refused_alike(InvalidWish, ("or", one.form, other.form), one.either, other)
            self.assert_refused_alike(InvalidWish, ("if", one.form, other.form), one.implies, other)
        self.assertEqual(Wish(deep(3)).denied().form, deep(4))
        self.assert_refused_alike(InvalidWish, deep(5), Wish(deep(4)).denied)


class OverTest(ErrorCase):

    def test_strange_levels(self):
        rows = [
            (("hook", "B", 0), True), (("hook", "H", 2), True), (("hook", "F", "last"), True), (FLOOR, True),
            (("hook", "A", 0), False), (("hook", "Z", "last"), False), (("hook", "B", 3), False),
            (("part", "foot", 2), True), (("part", "hand", "last"), True), (("part", "foot", 3), False),
            (("part", "head", 0), False), (("part", "fo", 0), False), (("part", "floor", 0), False),
            (("part", "body", 6), False), (("length", "a"), True), (("length", "c"), True), (("length", "d"), False),
        ]
        for level, expected in rows:
            for form in [("over", level, FLOOR, 0), ("over", FLOOR, level, (1, 2)),
                         deep(4, ("over", FLOOR, level, 0)), ("or", *[("over", FLOOR, FLOOR, 0)] * 5,
                                                              ("over", ("length", "b"), level, 0))]:
                self.assertIs(Wish(form).is_over(SCRIPT), expected)
                self.assertIs(Wish(form).is_over(script=SCRIPT), expected)

    def test_scripts_without_moves(self):
        still = Script(two_lines(), {"A": 1, "B": 2})
        for moment, expected in [(0, True), ("last", True), (1, False), (6, False)]:
            self.assertIs(Wish(("over", ("part", "load", moment), ("hook", "B", 0), 0)).is_over(still), expected)

    def test_no_scripts(self):
        for value in [*strange(), stick_man(), SCRIPT.run({"a": 1, "b": 2, "c": 3}), Script]:
            self.assert_refused(NotAScript, value, Wish(HIGH).is_over, value)
            self.assert_refused(NotAScript, value, Wish(HIGH).is_over, script=value)


class HoldingTest(ErrorCase):

    def test_drawn_wishes(self):
        random = Random(2)
        seen = [0, 0]
        for _ in range(400):
            script = drawn_script(random, drawn_puppet(random, 4, 4, 3), 5, 3)
            form = drawn_wish_form(random, script, 4, 8)
            run = script.run({name: random.randint(0, 20) for name in script.puppet.names})
            expected = holds_by_hand(form, run)
            self.assertIs(Wish(form).holds(run), expected)
            self.assertIs(Wish(form).holds(run=run), expected)
            self.assertIs(Wish(form).is_over(script), True)
            seen[expected] += 1
        self.assertGreater(min(seen), 50)

    def test_just_over(self):
        run = Script(two_lines(), {"A": 10, "B": 3}).run({"a": Ratio(5, 2), "b": 9})
        rows = [("(over load@0 floor 15/2)", True), ("(over load@0 floor 8)", False), ("(over a floor 5/2)", True),
                ("(over load@0 a 5)", True), ("(over load@0 a 51/10)", False), ("(over B@0 load@last -9/2)", True),
                ("(over B@0 load@last -22/5)", False), ("(not (over b A@0 -1))", False),
                ("(if (over load@0 floor 8) (over floor b 0))", True), ("(if (over a floor 2) (over floor b 0))", False),
                ("(and (over a floor 2) (over floor b 0))", False), ("(or (over a floor 2) (over floor b 0))", True)]
        for text, expected in rows:
            self.assertIs(Wish.read(text).holds(run), expected)

    def test_all_truths(self):
        run = Script(two_lines(), {"A": 10, "B": 3}).run({"a": 1, "b": 2})
        true, false = ("over", FLOOR, FLOOR, 0), ("over", FLOOR, FLOOR, 1)
        for one in (true, false):
            for other in (true, false):
                first, second = one is true, other is true
                rows = [("and", first and second), ("or", first or second), ("if", second or not first)]
                for word, expected in rows:
                    self.assertIs(Wish((word, one, other)).holds(run), expected)
        for word, odd, usual in [("and", false, true), ("or", true, false)]:
            for at in range(6):
                forms = [usual] * 6
                self.assertIs(Wish((word, *forms)).holds(run), usual is true)
                forms[at] = odd
                self.assertIs(Wish((word, *forms)).holds(run), odd is true)

    def test_no_runs(self):
        for value in [*strange(), SCRIPT, stick_man(), {"a": 1}]:
            self.assert_refused(NotARun, value, Wish(HIGH).holds, value)
            self.assert_refused(NotARun, value, Wish(HIGH).holds, run=value)

    def test_not_over_the_script(self):
        run = SCRIPT.run({"a": 1, "b": 2, "c": 3})
        for form in [HIGH, ("or", ("over", FLOOR, FLOOR, 0), HIGH), ("over", ("part", "foot", 3), FLOOR, 0)]:
            self.assert_refused(InvalidWish, form, Wish(form).holds, run)
            self.assert_refused(InvalidWish, form, Wish(form).holds, run=run)
