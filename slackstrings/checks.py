"""What questions about scripts and facts are asked with, looked at in the order of the document."""

from slackstrings.errors import InvalidLevel, InvalidWish, NotAScript, NotAWish, NotFacts, OtherNames, OtherParts
from slackstrings.facts import Facts
from slackstrings.levels import is_level, is_level_over
from slackstrings.scripts import Script
from slackstrings.wishes import Wish


def check_facts(script, facts):
    """Raises the error of what are no script and facts that go with it."""
    if not isinstance(script, Script):
        raise NotAScript(script)
    if not isinstance(facts, Facts):
        raise NotFacts(facts)
    if facts.names != script.puppet.names:
        raise OtherNames(facts.names)


def check_scripts(script, other, facts):
    """Raises the error of what are no two scripts of the same parts and names, and facts that go with them."""
    for each in (script, other):
        if not isinstance(each, Script):
            raise NotAScript(each)
    if not isinstance(facts, Facts):
        raise NotFacts(facts)
    if sorted(other.puppet.parts) != sorted(script.puppet.parts):
        raise OtherParts(other.puppet.parts)
    check_facts(script, facts)
    if other.puppet.names != script.puppet.names:
        raise OtherNames(other.puppet.names)


def check_level(level, script):
    """Raises InvalidLevel for what is no level of a script."""
    if not is_level(level) or not is_level_over(level, script):
        raise InvalidLevel(level)


def check_wish(wish, script):
    """Raises the error of what is no wish over a script."""
    if not isinstance(wish, Wish):
        raise NotAWish(wish)
    if not wish.is_over(script):
        raise InvalidWish(wish.form)
