"""Values of many kinds, to be passed where something else is asked for."""

from decimal import Decimal
from fractions import Fraction
from unittest.mock import ANY

from slackstrings.errors import InvalidNumber
from slackstrings.ratios import Ratio

NINES = 10 ** 30 - 1
LONG = 123456789012345678901234567890


class Hostile:
    """Whoever asks it anything fails."""

    def __eq__(self, other):
        raise RuntimeError

    def __str__(self):
        raise RuntimeError

    __bool__ = __len__ = __hash__ = __repr__ = __index__ = __int__ = __lt__ = __gt__ = __iter__ = __str__


class Agreeing:
    """It says that it is equal to everything."""

    def __eq__(self, other):
        return True


def nested(depth):
    """Lists in one another."""
    found = []
    for _ in range(depth):
        found = [found]
    return found


def nested_tuples(depth):
    """Tuples in one another."""
    found = ()
    for _ in range(depth):
        found = (found,)
    return found


def others():
    """Values of other kinds: neither integers nor Ratios nor strings."""
    return [None, True, False, b"", b"7", (), (1, 2), (7,), [], [1], {}, {"top": 1}, set(), {1},
            frozenset(), object(), Hostile(), Agreeing(), ANY, int, Ratio, len, Ratio.read, 1j, complex(7),
            Fraction(1, 2), Fraction(7), Decimal(7), range(7), nested(20), InvalidNumber(7), NotImplemented, ...]


def strange():
    """Values of all kinds, of which next to none is right anywhere."""
    return [*others(), 0, -1, 7, LONG, Ratio(7), Ratio(1, 2), "", "A", "seven", "\u00e9", nested_tuples(19),
            (Hostile(),), (Hostile(), Hostile()), (Hostile(),) * 3, ([],) * 3, (None,) * 4, (True, False, None)]
