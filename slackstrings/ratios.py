"""Exact fractions."""

from math import gcd

from slackstrings.errors import InvalidNumber, InvalidText
from slackstrings.kinds import is_whole


class Ratio:
    """An exact fraction in lowest terms; its bottom is above 0."""

    def __init__(self, top, bottom=1):
        if not is_whole(top):
            raise InvalidNumber(top)
        if not is_whole(bottom) or bottom < 1:
            raise InvalidNumber(bottom)
        shared = gcd(top, bottom)
        self.top = top // shared
        self.bottom = bottom // shared

    def __eq__(self, other):
        # False, not NotImplemented: the other object is not asked, since none of another kind is equal.
        if not is_fraction(other):
            return False
        beside = as_ratio(other)
        return self.top == beside.top and self.bottom == beside.bottom

    def __str__(self):
        if self.bottom == 1:
            return str(self.top)
        return f"{self.top}/{self.bottom}"

    def __neg__(self):
        return Ratio(-self.top, self.bottom)

    def __add__(self, other):
        if not is_fraction(other):
            return NotImplemented
        beside = as_ratio(other)
        return Ratio(self.top * beside.bottom + beside.top * self.bottom, self.bottom * beside.bottom)

    def __radd__(self, other):
        if not is_fraction(other):
            return NotImplemented
        return as_ratio(other) + self

    def __sub__(self, other):
        if not is_fraction(other):
            return NotImplemented
        return self + -as_ratio(other)

    def __rsub__(self, other):
        if not is_fraction(other):
            return NotImplemented
        return as_ratio(other) - self

    def __mul__(self, other):
        if not is_fraction(other):
            return NotImplemented
        beside = as_ratio(other)
        return Ratio(self.top * beside.top, self.bottom * beside.bottom)

    def __rmul__(self, other):
        if not is_fraction(other):
            return NotImplemented
        return as_ratio(other) * self

    def compared(self, other):
        """-1, 0 or 1, if this is below, equal to or above the other fraction."""
        if not is_fraction(other):
            raise InvalidNumber(other)
        beside = as_ratio(other)
        here = self.top * beside.bottom
        there = beside.top * self.bottom
        if here == there:
            return 0
        return 1 if here > there else -1

    def over(self, other):
        """This divided by the other fraction."""
        if not is_fraction(other) or other == 0:
            raise InvalidNumber(other)
        beside = as_ratio(other)
        # A Ratio takes no bottom below 0, so the sign of the divisor goes to the top.
        if beside.top < 0:
            return Ratio(-self.top * beside.bottom, -beside.top * self.bottom)
        return Ratio(self.top * beside.bottom, beside.top * self.bottom)

    @staticmethod
    def read(text):
        """The Ratio with just this text."""
        found = ratio_in(text) if isinstance(text, str) else None
        # Texts such as "07", "-0" and "4/2" can be reckoned, but str gives others.
        if found is None or str(found) != text:
            raise InvalidText(text)
        return found


def is_fraction(value):
    """Whether value is an integer or a Ratio."""
    return isinstance(value, Ratio) or is_whole(value)


def as_ratio(fraction):
    """The Ratio that is equal to an integer or a Ratio."""
    if isinstance(fraction, Ratio):
        return fraction
    return Ratio(fraction)


def ratio_in(text):
    """The Ratio that a string tells, perhaps not in its own text; None if it tells none."""
    top, slash, bottom = text.partition("/")
    if not slash:
        bottom = "1"
    if not has_digits_alone(top.removeprefix("-")) or not has_digits_alone(bottom):
        return None
    if int(bottom) == 0:
        return None
    return Ratio(int(top), int(bottom))


def has_digits_alone(text):
    """Whether a string is a row of the digits 0 to 9, one at least."""
    # Beyond ASCII there are digits that int takes as well, and others that it refuses.
    return text.isascii() and text.isdigit()
