"""Tests of slackstrings.facts."""

from fractions import Fraction
from random import Random

from slackstrings.errors import Contradictory, InvalidFacts, InvalidForm, InvalidLengths, InvalidName, InvalidNumber
from slackstrings.facts import Facts
from slackstrings.forms import Form
from slackstrings.ratios import Ratio
from tests.cases import ErrorCase, Lengths, as_fraction, corners, drawn_facts, drawn_form, numbers_of, rays, rows_of
from tests.cases import value as value_at
from tests.values import LONG, NINES, Agreeing, Hostile, others, strange

ALPHABET = "abcdefghijklmnopqrstuvwxyz"


def at_least(name, number):
    return Form(-number, ((name, 1),))


def at_most(name, number):
    return Form(number, ((name, -1),))


def lengths_of(facts):
    """The conditions that no length is below 0, as forms."""
    return [Form(0, ((name, 1),)) for name in facts.names]


def bounds(facts, form):
    """The least and the greatest value of a form, by looking at all corners and all ways to go on without end."""
    numbers = numbers_of(form, facts.names)
    values = [value_at((form.constant, numbers), corner) for corner in corners(rows_of(facts))]
    slopes = [value_at((0, numbers), ray) for ray in rays(facts)]
    return (None if any(slope < 0 for slope in slopes) else min(values),
            None if any(slope > 0 for slope in slopes) else max(values))


class FactsCase(ErrorCase):

    def assert_ratio(self, found, expected):
        """found is the Ratio of a Fraction, or both are None."""
        if expected is None:
            self.assertIsNone(found)
        else:
            self.assertIs(type(found), Ratio)
            self.assertEqual(as_fraction(found), expected)

    def assert_told(self, lengths, facts):
        """lengths are such as the program tells, and keep the facts."""
        self.assertIs(type(lengths), dict)
        self.assertEqual(sorted(lengths), list(facts.names))
        self.assertTrue(all(type(length) is Ratio and length.top >= 0 for length in lengths.values()))
        point = [as_fraction(lengths[name]) for name in facts.names]
        self.assertTrue(all(value_at(row, point) >= 0 for row in rows_of(facts)))

    def assert_numbers(self, numbers, many):
        self.assertIs(type(numbers), tuple)
        self.assertEqual(len(numbers), many)
        self.assertTrue(all(type(number) is int and number >= 0 for number in numbers))

    def assert_contradictory(self, names, forms):
        """No lengths keep the forms: their sum, as often as the weights say, is below 0 and has no lengths."""
        with self.assertRaises(Contradictory) as caught:
            Facts(names, forms)
        weights = caught.exception.weights
        self.assert_numbers(weights, len(names) + len(forms))
        conditions = [*[Form(0, ((name, 1),)) for name in names], *forms]
        total = Form()
        for condition, weight in zip(conditions, weights):
            total = total + condition * weight
        self.assertEqual(total.terms, ())
        self.assertLess(total.constant, 0)


class MakingTest(FactsCase):

    def test_attributes(self):
        forms = (at_most("a", 4), at_least("b", 5))
        facts = Facts("ab", forms)
        self.assertEqual(facts.names, "ab")
        self.assertIs(facts.forms, forms)
        self.assertEqual(len(facts), 2)
        self.assertEqual(Facts("ab").forms, ())
        self.assertEqual(Facts(forms=forms, names="abc").names, "abc")

    def test_truth(self):
        self.assertFalse(Facts("a"))
        self.assertTrue(Facts("a", (Form(),)))

    def test_equality(self):
        forms = (at_most("a", 4), at_least("b", 5))
        facts = Facts("ab", forms)
        self.assertIs(facts == Facts("ab", (at_most("a", 4), at_least("b", 5))), True)
        self.assertIs(facts != Facts("ab", (at_most("a", 4), at_least("b", 5))), False)
        different = [Facts("abc", forms), Facts("ab", forms[::-1]), Facts("ab", forms[:1]), Facts("ab"),
                     Facts("ab", (*forms, Form())), *strange(), "ab", forms, ("ab", forms)]
        for other in different:
            self.assertIs(facts == other, False)
            self.assertIs(facts != other, True)

    def test_names(self):
        for names in ["a", "z", "ab", "az", "abcdef", "uvwxyz", "bdfhjl"]:
            self.assertEqual(Facts(names).names, names)
        wrong = ["", "ba", "aa", "abb", "abcdefg", ALPHABET, "A", "aB", "a b", " a", "a1", "1", "\u00e9", "a\u00e9",
                 "a\n", "`", "{", ["a", "b"], ("a", "b"), {"a": 1}, b"ab", None, 1, True]
        for names in [*wrong, *others()]:
            self.assert_refused(InvalidName, names, Facts, names)
            self.assert_refused(InvalidName, names, Facts, names=names, forms=[])

    def test_forms_that_are_no_facts(self):
        form = at_most("a", 4)
        no_tuples = [value for value in others() if type(value) is not tuple]
        for forms in [[form], form, "a", {form.names: form}, (form,) * 9, (None,) * 9, *no_tuples]:
            self.assert_refused(InvalidFacts, None, Facts, "ab", forms)
            self.assert_refused(InvalidFacts, None, Facts, names="ab", forms=forms)
        foreign = Form(3, (("a", 1), ("c", 1)))
        for wrong in [*strange(), foreign, Form(0, (("c", 1),)), Ratio(1), "a", Facts("a"), (form,)]:
            for at in range(4):
                forms = (*[form] * at, wrong, form, wrong)
                self.assert_refused(InvalidFacts, at, Facts, "ab", forms)
                self.assert_refused(InvalidFacts, at, Facts, forms=forms, names="ab")
        self.assert_refused(InvalidFacts, 7, Facts, "ab", (form,) * 7 + (foreign,))
        self.assertEqual(len(Facts("ab", (form,) * 8)), 8)

    def test_order_of_errors(self):
        self.assert_refused(InvalidName, "ba", Facts, "ba", None)
        self.assert_refused(InvalidName, "", Facts, "", (at_least("a", 1), at_most("a", 0)))
        self.assert_refused(InvalidFacts, 2, Facts, "a", (at_least("a", 1), at_most("a", 0), None))
        self.assert_refused(InvalidFacts, None, Facts, "a", (at_least("a", 1), at_most("a", 0)) * 5)


class ContradictoryTest(FactsCase):

    def test_told_facts(self):
        a_above_b, b_above_a = Form(-1, (("a", 1), ("b", -1))), Form(0, (("a", -1), ("b", 1)))
        rows = [
            ("a", (at_least("a", 5), at_most("a", 4))), ("a", (Form(-1),)), ("a", (Form(-1, (("a", -1),)),)),
            ("abc", (Form(3), a_above_b, at_most("c", 1), b_above_a)),
            # Only the floor of the lengths is in the way here.
            ("ab", (Form(-1, (("a", -2), ("b", -3))),)), ("ab", (at_most("a", 3), Form(-4, (("a", 1), ("b", -1))))),
            # Between these there would be room for no less than a fraction.
            ("a", (Form(-NINES, (("a", 2 * NINES),)), Form(NINES - 1, (("a", -2 * NINES),)))),
            ("ab", (Form(-7, (("a", 3), ("b", 3))), Form(6, (("a", -3), ("b", -3))))),
            ("az", (Form(0, (("a", LONG), ("z", -NINES))), Form(-1, (("a", -LONG), ("z", NINES))))),
        ]
        for names, forms in rows:
            self.assert_contradictory(names, forms)
            self.assert_contradictory(names, (*forms, at_most(names[-1], 9)))
            self.assert_contradictory(names, (at_least(names[0], 0), *forms))

    def test_what_fractions_keep(self):
        half = Facts("a", (Form(-1, (("a", 2),)), Form(1, (("a", -2),))))
        self.assertEqual({name: str(length) for name, length in half.some().items()}, {"a": "1/2"})
        thin = Facts("ab", (Form(-7, (("a", 3), ("b", 3))), Form(7, (("a", -3), ("b", -3)))))
        self.assert_told(thin.some(), thin)
        long = Facts("a", (Form(-LONG, (("a", NINES),)), Form(LONG, (("a", -NINES),))))
        self.assertEqual(long.some(), {"a": Ratio(LONG, NINES)})

    def test_drawn_facts(self):
        random = Random(1)
        seen = [0, 0]
        for _ in range(300):
            names = "".join(sorted(random.sample(ALPHABET, random.randint(1, 3))))
            forms = tuple(drawn_form(random, names) * random.choice((1, 1, 10 ** 12, LONG)) - random.choice((0, 8, 20))
                          for _ in range(random.randint(1, 5)))
            kept = bool(corners([(form.constant, numbers_of(form, names)) for form in forms]))
            seen[kept] += 1
            if kept:
                facts = Facts(names, forms)
                self.assert_told(facts.some(), facts)
            else:
                self.assert_contradictory(names, forms)
        self.assertGreater(min(seen), 30)


class BoundsTest(FactsCase):

    def test_told_bounds(self):
        facts = Facts("abc", (at_most("a", 15), Form(0, (("a", -1), ("b", 1)))))
        a, b, c = ([Form(0, ((name, 1),)) for name in "abc"])
        rows = [(a, 0, 15), (b, 0, None), (c, 0, None), (a - b, None, 0), (b - a, 0, None), (b - c, None, None),
                (a + b, 0, None), (-a, -15, 0), (a * 2 - b, None, 15), (Form(7), 7, 7), (a - 20, -20, -5)]
        for form, least, greatest in rows:
            self.assert_ratio(facts.least(form), least)
            self.assert_ratio(facts.greatest(form), greatest)
            self.assert_ratio(facts.least(form=form), least)
            self.assert_ratio(facts.greatest(form=form), greatest)

    def test_drawn_bounds(self):
        random = Random(2)
        unbounded = 0
        for turn in range(250):
            names = "".join(sorted(random.sample(ALPHABET, random.randint(1, 3))))
            facts = drawn_facts(random, names)
            for _ in range(4):
                form = drawn_form(random, names) * random.choice((1, 1, 1, LONG))
                least, greatest = bounds(facts, form)
                self.assert_ratio(facts.least(form), least)
                self.assert_ratio(facts.greatest(form), greatest)
                self.assertIs(facts.follows(form), least is not None and least >= 0)
                unbounded += (least is None) + (greatest is None)
        self.assertGreater(unbounded, 100)

    def test_long_numbers(self):
        random = Random(3)
        for _ in range(60):
            forms = tuple(Form(random.randint(-NINES, NINES), (("p", random.randint(1, NINES)),
                          ("q", -random.randint(1, NINES)))) for _ in range(3))
            facts = Facts("pq", (*forms, Form(NINES, (("p", -1), ("q", -1)))))
            form = Form(LONG, (("p", random.randint(-LONG, -1)), ("q", LONG)))
            least, greatest = bounds(facts, form)
            self.assert_ratio(facts.least(form), least)
            self.assert_ratio(facts.greatest(form), greatest)

    def test_six_lengths_and_eight_facts(self):
        chain = tuple(Form(-number, ((one, -1), (other, 1)))
                      for number, (one, other) in enumerate(zip("abcde", "bcdef"), 1))
        facts = Facts("abcdef", (*chain, at_least("a", 7), at_most("f", 40), Form(0, (("c", 3), ("d", -2)))))
        f, c = Form(0, (("f", 1),)), Form(0, (("c", 1),))
        self.assert_ratio(facts.least(f), 22)
        self.assert_ratio(facts.greatest(f - c), 40 - 10)
        self.assert_ratio(facts.greatest(c), 28)
        self.assert_ratio(facts.least(c), 10)
        self.assert_told(facts.some(), facts)

    def test_turns_that_lead_nowhere(self):
        # Here simplex methods that take the steepest way are known to go round for ever.
        facts = Facts("abcd", (Form(0, (("a", -1), ("b", 22), ("c", 4), ("d", -36))),
                               Form(0, (("a", -1), ("b", 6), ("c", 1), ("d", -4))), at_most("a", 1)))
        self.assert_ratio(facts.greatest(Form(0, (("a", 10), ("b", -57), ("c", -9), ("d", -24)))), 1)

    def test_forms_that_are_none(self):
        facts = Facts("ab")
        foreign = [Form(1, (("c", 1),)), Form(0, (("a", 1), ("z", 1)))]
        for form in [*strange(), *foreign, "a", "ab", (0, (("a", 1),)), facts]:
            for act in (facts.greatest, facts.least, facts.follows, facts.weighing):
                self.assert_refused(InvalidForm, form, act, form)
                self.assert_refused(InvalidForm, form, act, form=form)


class FollowingTest(FactsCase):

    def assert_weighing(self, facts, form):
        found = facts.weighing(form)
        if not facts.follows(form):
            self.assertIsNone(found)
            return
        self.assertIs(type(found), tuple)
        times, numbers = found
        self.assertIs(type(times), int)
        self.assertGreater(times, 0)
        self.assert_numbers(numbers, len(facts.names) + len(facts.forms))
        rest = form * times
        for condition, number in zip([*lengths_of(facts), *facts.forms], numbers):
            rest = rest - condition * number
        self.assertEqual(rest.terms, ())
        self.assertGreaterEqual(rest.constant, 0)

    def test_told_forms(self):
        facts = Facts("ab", (at_most("a", 4), at_least("b", 5)))
        gap = Form(-1, (("a", -1), ("b", 1)))
        self.assertIs(facts.follows(gap), True)
        self.assertIs(facts.follows(form=gap - 1), False)
        self.assertIs(facts.follows(Form(0, (("a", 3), ("b", 1)))), True)
        self.assertIs(facts.follows(Form()), True)
        self.assertIs(facts.follows(Form(-1)), False)
        self.assertIs(facts.follows(Form(9, (("b", -1),))), False)
        for form in (gap, gap - 1, Form(), Form(-1), Form(9, (("b", -1),)), Form(LONG, (("a", -LONG // 5),))):
            self.assert_weighing(facts, form)
        self.assertIsNone(facts.weighing(form=Form(-1)))

    def test_drawn_forms(self):
        random = Random(4)
        followed = 0
        for _ in range(300):
            names = "".join(sorted(random.sample(ALPHABET, random.randint(1, 5))))
            facts = drawn_facts(random, names)
            form = drawn_form(random, names)
            least = facts.least(form)
            if least is not None and random.random() < 0.7:
                # The form that is just never below 0, and the one that is a little.
                form = form * least.bottom - least.top - random.choice((0, 0, 1))
            followed += facts.follows(form)
            self.assert_weighing(facts, form)
        self.assertGreater(followed, 50)


class LengthsTest(FactsCase):

    def test_some(self):
        random = Random(5)
        for _ in range(100):
            names = "".join(sorted(random.sample(ALPHABET, random.randint(1, 6))))
            facts = drawn_facts(random, names)
            found = facts.some()
            self.assert_told(found, facts)
            self.assertIs(facts.keeps(found), True)
            found.clear()
            self.assert_told(facts.some(), facts)

    def test_keeps(self):
        random = Random(6)
        seen = [0, 0]
        for _ in range(150):
            names = "".join(sorted(random.sample(ALPHABET, random.randint(1, 3))))
            facts = drawn_facts(random, names)
            inside = Lengths(facts).drawn(random)
            self.assertIs(facts.keeps(inside), True)
            lengths = {name: random.choice((length, length + 1, random.randint(0, 20)))
                       for name, length in inside.items()}
            point = [as_fraction(lengths[name]) for name in names]
            kept = all(value_at(row, point) >= 0 for row in rows_of(facts))
            self.assertIs(facts.keeps(lengths=lengths), kept)
            seen[kept] += 1
        self.assertGreater(min(seen), 20)

    def test_keeps_just(self):
        facts = Facts("ab", (at_most("a", 4), Form(0, (("a", -1), ("b", 1)))))
        self.assertIs(facts.keeps({"b": 4, "a": 4}), True)
        self.assertIs(facts.keeps({"a": Ratio(4), "b": Ratio(4)}), True)
        self.assertIs(facts.keeps({"a": Ratio(9, 2), "b": 9}), False)
        self.assertIs(facts.keeps({"a": 4, "b": Ratio(399, 100)}), False)
        self.assertIs(facts.keeps({"a": 0, "b": 0}), True)

    def test_lengths_that_are_none(self):
        facts = Facts("ab", (at_least("a", 5),))
        right = {"a": 1, "b": 2}
        spoilt = [{}, {"a": 1}, {"a": 1, "c": 1}, {**right, "c": 1}, {**right, "a": -1}, {**right, "b": Ratio(-1, 9)},
                  {**right, "a": True}, {**right, "b": None}, {**right, "b": "2"}, {**right, 1: 1}, {"a": 1, 1: 1},
                  {**right, "a": Hostile()}, {**right, "b": Agreeing()}, {**right, "b": [1]}, [("a", 1), ("b", 2)], "ab"]
        for lengths in [*spoilt, *strange()]:
            self.assert_refused(InvalidLengths, lengths, facts.keeps, lengths)
            self.assert_refused(InvalidLengths, lengths, facts.keeps, lengths=lengths)


class ChangingTest(FactsCase):

    def test_with_fact(self):
        facts = Facts("ab", (at_most("a", 4),))
        longer = facts.with_fact(at_least("b", 5))
        self.assertEqual(longer, Facts("ab", (at_most("a", 4), at_least("b", 5))))
        self.assertEqual(facts, Facts("ab", (at_most("a", 4),)))
        self.assertEqual(facts.with_fact(form=Form()).forms, (at_most("a", 4), Form()))
        self.assert_ratio(longer.least(Form(0, (("b", 1),))), 5)

    def test_with_fact_refused(self):
        facts = Facts("ab", (at_most("a", 4),) * 7)
        for form in [*strange(), Form(0, (("c", 1),))]:
            self.assert_refused(InvalidFacts, 7, facts.with_fact, form)
            self.assert_refused(InvalidFacts, 7, facts.with_fact, form=form)
        full = facts.with_fact(Form())
        for form in [Form(), None, Form(-1)]:
            self.assert_refused(InvalidFacts, None, full.with_fact, form)
        with self.assertRaises(Contradictory) as caught:
            facts.with_fact(at_least("a", 5))
        self.assert_numbers(caught.exception.weights, 10)
        self.assertEqual(sum(caught.exception.weights[2:9]), caught.exception.weights[9])

    def test_without_fact(self):
        forms = (at_most("a", 4), at_least("b", 5), Form(9))
        facts = Facts("ab", forms)
        for index in range(3):
            self.assertEqual(facts.without_fact(index).forms, forms[:index] + forms[index + 1:])
            self.assertEqual(facts.without_fact(index=index).names, "ab")
        self.assertEqual(facts.forms, forms)
        self.assertIsNone(facts.without_fact(0).greatest(Form(0, (("a", 1),))))

    def test_without_fact_refused(self):
        facts = Facts("ab", (Form(), Form(1)))
        for index in [-1, -2, 2, 3, LONG, "0", Ratio(0), Ratio(1), *others()]:
            self.assert_refused(InvalidNumber, index, facts.without_fact, index)
            self.assert_refused(InvalidNumber, index, facts.without_fact, index=index)
        self.assert_refused(InvalidNumber, 0, Facts("a").without_fact, 0)

    def test_what_is_asked_alters_nothing(self):
        facts = Facts("ab", (at_most("a", 4), at_least("b", 5)))
        form = Form(1, (("a", 1), ("b", -1)))
        before = [str(facts.greatest(form)), facts.least(form), facts.weighing(form), facts.some()]
        self.assertEqual(before, [str(facts.greatest(form)), facts.least(form), facts.weighing(form), facts.some()])
        self.assertEqual(facts, Facts("ab", (at_most("a", 4), at_least("b", 5))))
        self.assertEqual(Fraction(0), as_fraction(facts.greatest(form)))
