"""Forms: sums of an integer and of integer times of lengths."""

from slackstrings.errors import InvalidForm, InvalidLengths, InvalidNumber
from slackstrings.kinds import is_one_of, is_small_letter, is_whole
from slackstrings.lengths import are_lengths_for
from slackstrings.ratios import Ratio


class Form:
    """A constant and terms, each a letter and how often it is taken."""

    def __init__(self, constant=0, terms=()):
        if not is_whole(constant):
            raise InvalidNumber(constant)
        if not are_terms(terms):
            raise InvalidForm(terms)
        self.constant = constant
        self.terms = terms
        self.names = "".join([name for name, _ in terms])

    def __eq__(self, other):
        return isinstance(other, Form) and self.constant == other.constant and self.terms == other.terms

    def __str__(self):
        return "".join(text_pieces(self.constant, self.terms))

    def __neg__(self):
        return self * -1

    def __add__(self, other):
        if isinstance(other, Form):
            return Form(self.constant + other.constant, summed_terms(self.terms, other.terms))
        if is_whole(other):
            return Form(self.constant + other, self.terms)
        return NotImplemented

    def __sub__(self, other):
        if isinstance(other, Form) or is_whole(other):
            return self + -other
        return NotImplemented

    def __mul__(self, other):
        if not is_whole(other):
            return NotImplemented
        if other == 0:
            return Form()
        return Form(self.constant * other, tuple([(name, number * other) for name, number in self.terms]))

    def at(self, lengths):
        """The value of the form for these lengths, a Ratio."""
        if not are_lengths_for(lengths, self.names):
            raise InvalidLengths(lengths)
        found = Ratio(self.constant)
        for name, number in self.terms:
            found = found + lengths[name] * number
        return found


def are_terms(value):
    """Whether value is a tuple of pairs of a letter and an integer other than 0, the letters rising."""
    if not isinstance(value, tuple) or not all([is_term(term) for term in value]):
        return False
    return all([one[0] < other[0] for one, other in zip(value, value[1:])])


def is_term(value):
    """Whether value is a pair of a small letter and an integer other than 0."""
    if not isinstance(value, tuple) or len(value) != 2:
        return False
    return is_small_letter(value[0]) and is_whole(value[1]) and value[1] != 0


def is_form_over(value, names):
    """Whether value is a Form whose names are all among some others."""
    return isinstance(value, Form) and all([is_one_of(name, names) for name in value.names])


def summed_terms(terms, others):
    """The terms of a sum, without those that cancel."""
    numbers = {}
    for name, number in [*terms, *others]:
        numbers[name] = numbers.get(name, 0) + number
    return tuple([(name, numbers[name]) for name in sorted(numbers) if numbers[name] != 0])


def text_pieces(constant, terms):
    """The strings that make up the text of a form."""
    numbers = [(name, number) for name, number in terms]
    if constant != 0 or not numbers:
        numbers = [("", constant), *numbers]
    head, first = numbers[0]
    start = "-" if first < 0 else ""
    tail = [f" {sign_text(number)} {amount_text(name, number)}" for name, number in numbers[1:]]
    return [start, amount_text(head, first), *tail]


def sign_text(number):
    """The sign of an integer, as it stands between two pieces."""
    return "-" if number < 0 else "+"


def amount_text(name, number):
    """The text of a term, or of a constant if the name is empty, without its sign."""
    if not name:
        return str(abs(number))
    return name if abs(number) == 1 else f"{abs(number)} {name}"
