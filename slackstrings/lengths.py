"""Lengths and heights that are told: dicts of fractions."""

from slackstrings.kinds import has_just, is_small_letter
from slackstrings.ratios import as_ratio, is_fraction


def is_length(value):
    """Whether value is a fraction from 0 on."""
    return is_fraction(value) and as_ratio(value).top >= 0


def are_lengths(value, names):
    """Whether value is a dict that has a fraction from 0 on for just these names."""
    return has_just(value, names) and all([is_length(value[name]) for name in names])


def are_lengths_for(value, names):
    """Whether value is a dict from small letters to fractions from 0 on that has all these names."""
    if not isinstance(value, dict) or not all([name in value for name in names]):
        return False
    return all([is_small_letter(name) and is_length(length) for name, length in value.items()])


def are_heights(value, hooks):
    """Whether value is a dict that has a fraction for just these hooks."""
    return has_just(value, hooks) and all([is_fraction(value[hook]) for hook in hooks])


def greatest_of(ratios):
    """The greatest of some Ratios, one at least."""
    found = ratios[0]
    for ratio in ratios[1:]:
        if ratio.compared(found) > 0:
            found = ratio
    return found
