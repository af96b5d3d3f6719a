"""Tests of slackstrings.forms."""

from random import Random

from slackstrings.errors import InvalidForm, InvalidLengths, InvalidNumber
from slackstrings.forms import Form
from slackstrings.ratios import Ratio
from tests.cases import ErrorCase, as_fraction
from tests.values import LONG, NINES, Agreeing, Hostile, nested, others

NUMBERS = [1, -1, 2, -2, 7, 10 ** 12, -10 ** 12, 10 ** 12 - 1, LONG, -LONG, NINES, -NINES]
LETTERS = "abcdefghijklmnopqrstuvwxyz"


def told(form):
    """The constant and the numbers by letter; known to be kept in the right shape."""
    assert type(form) is Form and type(form.constant) is int and type(form.terms) is tuple
    assert all(type(term) is tuple and len(term) == 2 for term in form.terms)
    assert [name for name, _ in form.terms] == sorted({name for name, _ in form.terms})
    assert all(type(number) is int and number != 0 for _, number in form.terms)
    assert form.names == "".join(name for name, _ in form.terms)
    return form.constant, dict(form.terms)


def reckoned(constant, numbers):
    """The same for what was reckoned letter by letter."""
    return constant, {name: number for name, number in numbers.items() if number != 0}


def drawn(random):
    """A form over up to six letters."""
    letters = sorted(random.sample(random.choice((LETTERS, "abc")), random.randint(0, 3)))
    constant = random.choice((0, *NUMBERS))
    return Form(constant, tuple((name, random.choice(NUMBERS)) for name in letters))


class MakingTest(ErrorCase):

    def test_attributes(self):
        terms = (("a", 1), ("c", -LONG), ("z", NINES))
        form = Form(-7, terms)
        self.assertEqual([form.constant, form.names], [-7, "acz"])
        self.assertIs(form.terms, terms)

    def test_by_name_and_left_out(self):
        self.assertEqual(told(Form()), (0, {}))
        self.assertEqual(told(Form(5)), (5, {}))
        self.assertEqual(told(Form(terms=(("b", 2),))), (0, {"b": 2}))
        self.assertEqual(told(Form(terms=(("b", 2),), constant=-3)), (-3, {"b": 2}))

    def test_the_whole_alphabet(self):
        form = Form(0, tuple((name, 1) for name in LETTERS))
        self.assertEqual(form.names, LETTERS)

    def test_constants_of_other_kinds(self):
        for value in [*others(), "7", "", Ratio(7), Ratio(1, 2)]:
            self.assert_refused(InvalidNumber, value, Form, value)
            self.assert_refused(InvalidNumber, value, Form, constant=value, terms=[])

    def test_terms_that_are_none(self):
        pair = ("a", 1)
        spoilt = [[pair], [], {"a": 1}, "a", "a1", pair, (pair, ["b", 1]), (("a",),), (("a", 1, 1),), ((),), (pair, ()),
                  (("b", 1), pair), (pair, pair), (pair, ("a", 2)), (("a", 1), ("c", 1), ("b", 1)), (("A", 1),),
                  (("ab", 1),), (("", 1),), (("a", 0),), (pair, ("b", 0)), (("a", True),), (("a", False),),
                  (("a", Ratio(1)),), (("a", "1"),), (("a", None),), ((1, "a"),), ((1, 1),), ((None, 1),),
                  ((b"a", 1),), (("\u00e9", 1),), (("\u0430", 1),), (("`", 1),), (("{", 1),), (("1", 1),), ((" ", 1),),
                  ((Hostile(), 1),), (("a", Hostile()),), (Hostile(),), (Agreeing(),), ((Agreeing(), 1),),
                  (pair, None), (None,), ("a1",), (("a", [1]),), (nested(18),)]
        for terms in spoilt:
            self.assert_refused(InvalidForm, terms, Form, 3, terms)
            self.assert_refused(InvalidForm, terms, Form, terms=terms)
        for value in others():
            for terms in [((value, 1),), (("a", value),), (value, pair), (pair, value), (pair, (value, 1))]:
                self.assert_refused(InvalidForm, terms, Form, 0, terms)
        for value in [value for value in others() if type(value) is not tuple or len(value) > 0]:
            self.assert_refused(InvalidForm, value, Form, 0, value)

    def test_the_constant_goes_ahead_of_the_terms(self):
        self.assert_refused(InvalidNumber, True, Form, True, [("a", 1)])
        self.assert_refused(InvalidNumber, None, Form, None, None)


class ReckoningTest(ErrorCase):

    def test_sums_and_differences(self):
        random = Random(1)
        for _ in range(400):
            one, other = drawn(random), drawn(random)
            (first, numbers), (second, more) = told(one), told(other)
            letters = {*numbers, *more}
            added = {name: numbers.get(name, 0) + more.get(name, 0) for name in letters}
            taken = {name: numbers.get(name, 0) - more.get(name, 0) for name in letters}
            self.assertEqual(told(one + other), reckoned(first + second, added))
            self.assertEqual(told(one - other), reckoned(first - second, taken))
            self.assertEqual([told(one), told(other)], [(first, numbers), (second, more)])

    def test_what_cancels_is_left_out(self):
        form = Form(3, (("a", LONG), ("b", -2), ("z", 1)))
        self.assertEqual(told(form - form), (0, {}))
        self.assertEqual(told(form + -form), (0, {}))
        self.assertEqual(told(form + Form(0, (("a", -LONG), ("z", 1)))), (3, {"b": -2, "z": 2}))
        self.assertEqual(told(form - Form(3, (("b", -2),))), (0, {"a": LONG, "z": 1}))
        self.assertEqual((form - form).terms, ())
        self.assertEqual(told(Form(0, (("b", 1),)) + Form(0, (("a", 1), ("c", 1)))), (0, {"a": 1, "b": 1, "c": 1}))

    def test_integers_on_the_right(self):
        random = Random(2)
        for _ in range(100):
            form, number = drawn(random), random.choice((0, *NUMBERS))
            constant, numbers = told(form)
            self.assertEqual(told(form + number), (constant + number, numbers))
            self.assertEqual(told(form - number), (constant - number, numbers))
            times = {name: each * number for name, each in numbers.items()}
            self.assertEqual(told(form * number), reckoned(constant * number, times))

    def test_opposites(self):
        random = Random(3)
        for _ in range(100):
            form = drawn(random)
            constant, numbers = told(form)
            self.assertEqual(told(-form), (-constant, {name: -number for name, number in numbers.items()}))

    def test_taken_no_times(self):
        self.assertEqual(told(Form(5, (("a", 1), ("b", LONG))) * 0), (0, {}))
        self.assertEqual(told(Form() * LONG), (0, {}))


class EqualityTest(ErrorCase):

    def test_forms(self):
        random = Random(4)
        forms = [drawn(random) for _ in range(40)] + [Form(1), Form(1, (("a", 1),)), Form(1, (("b", 1),)), Form()]
        for at, one in enumerate(forms):
            for other in forms:
                self.assertIs(one == other, told(one) == told(other))
                self.assertIs(one != other, told(one) != told(other))
            again = Form(one.constant, tuple(list(one.terms)))
            self.assertIs(one == again, True)
            self.assertIs(one == again + 1, False)
            self.assertIs(one == again + Form(0, (("q", 1),)), False)

    def test_values_of_other_kinds(self):
        for form in [Form(), Form(7), Form(1, (("a", 1),))]:
            for value in [*others(), 7, 1, Ratio(7), "7", "a", (("a", 1),), (1, (("a", 1),)), str(form)]:
                self.assertIs(form == value, False)
                self.assertIs(form != value, True)

    def test_all_are_true(self):
        self.assertTrue(Form())


class AtTest(ErrorCase):

    def test_values(self):
        random = Random(5)
        for _ in range(200):
            form = drawn(random)
            names = sorted({*form.names, *random.sample(LETTERS, random.randint(0, 4))})
            random.shuffle(names)
            lengths = {name: self.length(random) for name in names}
            before = {name: as_fraction(length) for name, length in lengths.items()}
            found = form.at(lengths)
            self.assertIs(type(found), Ratio)
            expected = form.constant + sum(number * before[name] for name, number in form.terms)
            self.assertEqual(as_fraction(found), expected)
            self.assertEqual({name: as_fraction(length) for name, length in lengths.items()}, before)

    def length(self, random):
        if random.random() < 0.5:
            return random.choice((0, 1, 7, LONG))
        return Ratio(random.choice((0, 1, 5, NINES)), random.choice((1, 2, 7, LONG)))

    def test_told_values(self):
        form = Form(20, (("a", -1), ("c", 2)))
        self.assertEqual(str(form.at({"c": Ratio(1, 4), "a": 3})), "35/2")
        self.assertEqual(str(form.at(lengths={"a": 0, "b": 9, "c": Ratio(0)})), "20")
        self.assertIs(type(Form(7).at({})), Ratio)
        self.assertEqual(str(Form(-7).at({"z": 1})), "-7")

    def test_lengths_that_are_none(self):
        form = Form(1, (("a", 1), ("b", -1)))
        right = {"a": 1, "b": Ratio(1, 2)}
        spoilt = [{}, {"a": 1}, {"b": 1}, {"a": 1, "c": 1}, [("a", 1), ("b", 1)], ("a", "b"), "ab", None, 7,
                  {**right, "a": -1}, {**right, "b": Ratio(-1, 2)}, {**right, "c": -1}, {**right, "a": True},
                  {**right, "b": False}, {**right, "c": True}, {**right, "a": None}, {**right, "a": "1"},
                  {**right, "c": None}, {**right, "A": 1}, {**right, "ab": 1}, {**right, "": 1}, {**right, 1: 1},
                  {**right, None: 1}, {**right, ("a",): 1}, {**right, b"a": 1}, {**right, "\u00e9": 1},
                  {**right, True: 1}, {**right, "a": Hostile()}, {**right, "c": Agreeing()}, {**right, "c": [1]}]
        for lengths in spoilt:
            self.assert_refused(InvalidLengths, lengths, form.at, lengths)
            self.assert_refused(InvalidLengths, lengths, form.at, lengths=lengths)
        for value in others():
            for each in (form, Form()):
                if not (each.names == "" and type(value) is dict and not value):
                    self.assert_refused(InvalidLengths, value, each.at, value)


class TextTest(ErrorCase):

    def test_text(self):
        rows = {
            "0": Form(), "7": Form(7), "-7": Form(-7), "20 - a": Form(20, (("a", -1),)), "a": Form(0, (("a", 1),)),
            "-a + 2 b": Form(0, (("a", -1), ("b", 2))), "-a": Form(0, (("a", -1),)), "2 a": Form(0, (("a", 2),)),
            "-2 a": Form(0, (("a", -2),)), "-3 - a": Form(-3, (("a", -1),)), "1 + a": Form(1, (("a", 1),)),
            "-1 - 2 x + y - z": Form(-1, (("x", -2), ("y", 1), ("z", -1))), "a - b": Form(0, (("a", 1), ("b", -1))),
            "-10 b - 10 c": Form(0, (("b", -10), ("c", -10))), "-1": Form(-1), "1": Form(1),
            "5 - 11 a + 12 b": Form(5, (("a", -11), ("b", 12))),
            "-" + "9" * 30 + " + 123456789012345678901234567890 q": Form(-NINES, (("q", LONG),)),
        }
        for text, form in rows.items():
            self.assertEqual(str(form), text)
            self.assertIs(type(str(form)), str)

    def test_text_reckoned(self):
        random = Random(6)
        for _ in range(200):
            form = drawn(random)
            words = str(form).replace(" - ", " + -").split(" + ")
            constant, numbers = 0, {}
            for word in words:
                amount, _, name = word.rpartition(" ")
                if word[-1].isalpha():
                    sign = -1 if word.startswith("-") else 1
                    numbers[name[-1]] = int(amount) if amount else sign
                else:
                    constant = int(word)
            self.assertEqual((constant, numbers), told(form))
