"""Strings that a script can do without."""

from itertools import combinations

from slackstrings.checks import check_facts, check_wish
from slackstrings.errors import NoWay
from slackstrings.scripts import Script
from slackstrings.searches import found_for_wish, lengths_apart


def idle(script, facts):
    """The names of the strings that are idle, each by itself."""
    check_facts(script, facts)
    return "".join([name for name in facts.names if is_idle(name, script, facts)])


def least_sets(script, facts, wish):
    """A list of the least sets of strings that are enough for a wish, each as the string of its names."""
    check_facts(script, facts)
    check_wish(wish, script)
    found = []
    for size in range(1, len(facts.names) + 1):
        # Of sets of one size none is within another one.
        for names in combinations(facts.names, size):
            if not has_within(names, found) and is_enough(names, script, facts, wish):
                found.append("".join(names))
    return found


def is_idle(name, script, facts):
    """Whether without a string the script can be done and leaves all parts at the same heights at each moment."""
    left = facts.names.replace(name, "")
    # A puppet without any string is none.
    other = script_with(left, script) if left else None
    if other is None:
        return False
    moments = range(len(script.moves) + 1)
    levels = [("part", part, moment) for moment in moments for part in script.puppet.parts]
    return lengths_apart(script, other, facts, levels) is None


def is_enough(names, script, facts, wish):
    """Whether with these strings alone the script can be done and a wish always holds."""
    other = script_with(names, script)
    return other is not None and found_for_wish(other, facts, wish.form, False) is None


def script_with(names, script):
    """The script with the puppet that has the strings of these names alone; None if it cannot be done."""
    puppet = script.puppet
    others = "".join([name for name in puppet.names if name not in names])
    try:
        return Script(puppet.without(others), script.start, script.moves)
    except NoWay:
        return None


def has_within(names, sets):
    """Whether one of some sets, strings of names, lies within these names."""
    return any([all([name in names for name in each]) for each in sets])
