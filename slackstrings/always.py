"""What holds for all lengths that keep facts, behind scripts."""

from slackstrings.bounds import greatest_of_level, least_of_level, top_below_level, top_of_level
from slackstrings.checks import check_facts, check_level, check_scripts, check_wish
from slackstrings.courses import Plan, both_courses
from slackstrings.errors import InvalidNumber, Never, UnknownPart
from slackstrings.facts import lengths_at
from slackstrings.holds import tops_of_level
from slackstrings.kinds import is_number, is_one_of
from slackstrings.ratios import Ratio
from slackstrings.regions import greatests, higher, topped
from slackstrings.searches import found_for_wish, least_loosening, lengths_apart, part_for_wish, part_loosened_less
from slackstrings.searches import search_region
from slackstrings.vectors import minus
from slackstrings.wishes import levels_in


def always(script, facts, wish):
    """Whether a wish holds for all lengths that keep the facts."""
    return breach(script, facts, wish) is None


def ever(script, facts, wish):
    """Whether a wish holds for some lengths that keep the facts."""
    check_facts(script, facts)
    check_wish(wish, script)
    return found_for_wish(script, facts, wish.form, True) is not None


def breach(script, facts, wish):
    """A new dict of some lengths that keep the facts and for which a wish does not hold; None if there are none."""
    check_facts(script, facts)
    check_wish(wish, script)
    return found_for_wish(script, facts, wish.form, False)


def greatest(script, facts, level):
    """The greatest value of a level, a Ratio; None if there is no bound."""
    check_facts(script, facts)
    check_level(level, script)
    return greatest_of_level(script, facts, level)


def least(script, facts, level):
    """The least value of a level, a Ratio: there always is a bound."""
    check_facts(script, facts)
    check_level(level, script)
    return least_of_level(script, facts, level)


def at_greatest(script, facts, level):
    """A new dict of some lengths that keep the facts and lead to the greatest value; None if there is no bound."""
    check_facts(script, facts)
    check_level(level, script)
    top = top_of_level(script, facts, level)
    return None if top is None else lengths_at(top, facts.names)


def at_least(script, facts, level):
    """A new dict of some lengths that keep the facts and lead to the least value."""
    check_facts(script, facts)
    check_level(level, script)
    return lengths_at(top_below_level(script, facts, level), facts.names)


def alike(script, other, facts):
    """Whether two scripts leave all parts at the same heights for all lengths that keep the facts."""
    return parting(script, other, facts) is None


def parting(script, other, facts):
    """Some lengths that keep the facts, in a new dict, with the first part that then ends at another height.

    None if two scripts are alike.
    """
    check_scripts(script, other, facts)
    lengths = lengths_apart(script, other, facts, [("part", part, "last") for part in script.puppet.parts])
    if lengths is None:
        return None
    here, there = script.run(lengths), other.run(lengths)
    apart = [part for part in script.puppet.parts if here.height("last", part) != there.height("last", part)]
    return lengths, apart[0]


def most_above(script, other, facts, part):
    """The greatest of the last height of a part in a script less that in another one; None if there is no bound."""
    check_scripts(script, other, facts)
    if not is_one_of(part, script.puppet.parts):
        raise UnknownPart(part)
    found = None
    for cell, gap in gaps(script, other, facts, part):
        top = topped(cell, gap)
        if top is None:
            return None
        found = higher(found, top)
    return Ratio(found.last_height(), found.scale)


def tolerance(script, facts, index, wish):
    """By how much a fact may be loosened so that a wish still always holds, a Ratio; None if by any amount."""
    check_facts(script, facts)
    if not is_number(index) or index >= len(facts.forms):
        raise InvalidNumber(index)
    check_wish(wish, script)
    if found_for_wish(script, facts, wish.form, False) is not None:
        raise Never()
    plan = Plan(script, facts.names, levels_in(wish.form))
    region = search_region(facts, index)
    found = None
    part = part_for_wish(plan, region, wish.form, False)
    while part is not None:
        found = least_loosening(part, facts)
        nearer = part_loosened_less(region, facts, found)
        part = None if nearer is None else part_for_wish(plan, nearer, wish.form, False)
    return found


def gaps(script, other, facts, part):
    """Cells that cover the facts, with vectors whose greatest is the height of a part less that in another script."""
    level = ("part", part, "last")
    names = facts.names
    plan, plan_there = Plan(script, names, [level]), Plan(other, names, [level])
    region = facts.region
    for cell, moments, moments_there in both_courses(plan, plan_there, region):
        tops = tops_of_level(level, script, moments, names)
        tops_there = tops_of_level(level, other, moments_there, names)
        for inner, low in greatests(cell, tops_there):
            for high in tops:
                yield inner, minus(high, low)
