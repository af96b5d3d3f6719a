"""What holds for all lengths that keep facts, behind scripts."""

from slackstrings.checks import check_facts, check_level, check_scripts, check_wish
from slackstrings.courses import courses, needed_for, tops_of_level
from slackstrings.errors import InvalidNumber, Never, UnknownPart
from slackstrings.facts import lengths_at
from slackstrings.kinds import is_number, is_one_of
from slackstrings.ratios import Ratio
from slackstrings.regions import greatests, higher, topped
from slackstrings.searches import found_for_wish, part_apart, part_for_wish, search_region
from slackstrings.searches import least_loosening, part_loosened_less
from slackstrings.vectors import minus, opposite


def always(script, facts, wish):
    """Whether a wish holds for all lengths that keep the facts."""
    return breach(script, facts, wish) is None


def ever(script, facts, wish):
    """Whether a wish holds for some lengths that keep the facts."""
    check_facts(script, facts)
    check_wish(wish, script)
    return found_for_wish(script, facts, wish.form, True) is not None


def breach(script, facts, wish):
    """A new dict of some lengths that keep the facts and for which a wish does not hold; None if there are none."""
    check_facts(script, facts)
    check_wish(wish, script)
    return found_for_wish(script, facts, wish.form, False)


def greatest(script, facts, level):
    """The greatest value of a level, a Ratio; None if there is no bound."""
    check_facts(script, facts)
    check_level(level, script)
    top = top_of_level(script, facts, level)
    return None if top is None else Ratio(top.last_height(), top.scale)


def least(script, facts, level):
    """The least value of a level, a Ratio: there always is a bound."""
    check_facts(script, facts)
    check_level(level, script)
    top = top_below_level(script, facts, level)
    return Ratio(-top.last_height(), top.scale)


def at_greatest(script, facts, level):
    """A new dict of some lengths that keep the facts and lead to the greatest value; None if there is no bound."""
    check_facts(script, facts)
    check_level(level, script)
    top = top_of_level(script, facts, level)
    return None if top is None else lengths_at(top, facts.names)


def at_least(script, facts, level):
    """A new dict of some lengths that keep the facts and lead to the least value."""
    check_facts(script, facts)
    check_level(level, script)
    return lengths_at(top_below_level(script, facts, level), facts.names)


def alike(script, other, facts):
    """Whether two scripts leave all parts at the same heights for all lengths that keep the facts."""
    return parting(script, other, facts) is None


def parting(script, other, facts):
    """Some lengths that keep the facts, in a new dict, with the first part that then ends at another height.

    None if two scripts are alike.
    """
    check_scripts(script, other, facts)
    lengths = lengths_apart(script, other, facts)
    if lengths is None:
        return None
    here, there = script.run(lengths), other.run(lengths)
    apart = [part for part in script.puppet.parts if here.height("last", part) != there.height("last", part)]
    return lengths, apart[0]


def most_above(script, other, facts, part):
    """The greatest of the last height of a part in a script less that in another one; None if there is no bound."""
    check_scripts(script, other, facts)
    if not is_one_of(part, script.puppet.parts):
        raise UnknownPart(part)
    found = None
    for cell, gap in gaps(script, other, facts, part):
        top = topped(cell, gap)
        if top is None:
            return None
        found = higher(found, top)
    return Ratio(found.last_height(), found.scale)


def tolerance(script, facts, index, wish):
    """By how much a fact may be loosened so that a wish still always holds, a Ratio; None if by any amount."""
    check_facts(script, facts)
    if not is_number(index) or index >= len(facts.forms):
        raise InvalidNumber(index)
    check_wish(wish, script)
    if found_for_wish(script, facts, wish.form, False) is not None:
        raise Never()
    region = search_region(facts, index)
    found = None
    part = part_for_wish(script, region, wish.form, False)
    while part is not None:
        found = least_loosening(part, facts)
        nearer = part_loosened_less(region, facts, found)
        part = None if nearer is None else part_for_wish(script, nearer, wish.form, False)
    return found


def top_of_level(script, facts, level):
    """A region from a corner at which its last form, a level, is as high as with any lengths; None if no bound."""
    found = None
    region = facts.region
    needed = needed_for([level], script)
    for cell, moments in courses(script, region, needed):
        for vector in tops_of_level(level, script, moments):
            top = topped(cell, vector)
            if top is None:
                return None
            found = higher(found, top)
    return found


def top_below_level(script, facts, level):
    """The same for the opposite of the level.

    It always has a bound: nothing is lowered further than by integers, or than where it holds a part at the floor.
    """
    found = None
    region = facts.region
    needed = needed_for([level], script)
    for cell, moments in courses(script, region, needed):
        tops = tops_of_level(level, script, moments)
        for inner, vector in greatests(cell, tops):
            found = higher(found, topped(inner, opposite(vector)))
    return found


def both_courses(script, other, region, parts):
    """Cells that cover a region, each with the vectors of the hooks of two scripts at all moments.

    Hauls on which the last heights of these parts do not depend are left out.
    """
    levels = [("part", part, "last") for part in parts]
    needed = needed_for(levels, script)
    needed_there = needed_for(levels, other)
    for cell, moments in courses(script, region, needed):
        for inner, moments_there in courses(other, cell, needed_there):
            yield inner, moments, moments_there


def gaps(script, other, facts, part):
    """Cells that cover the facts, with vectors whose greatest is the height of a part less that in another script."""
    level = ("part", part, "last")
    region = facts.region
    parts = [part]
    for cell, moments, moments_there in both_courses(script, other, region, parts):
        tops = tops_of_level(level, script, moments)
        tops_there = tops_of_level(level, other, moments_there)
        for inner, low in greatests(cell, tops_there):
            for high in tops:
                yield inner, minus(high, low)


def lengths_apart(script, other, facts):
    """A new dict of lengths that keep the facts and for which some part ends at another height; None if none do."""
    region = search_region(facts, None)
    parts = script.puppet.parts
    for cell, moments, moments_there in both_courses(script, other, region, parts):
        for part in parts:
            level = ("part", part, "last")
            tops = tops_of_level(level, script, moments)
            tops_there = tops_of_level(level, other, moments_there)
            for highs, lows in ((tops, tops_there), (tops_there, tops)):
                found = part_apart(cell, highs, lows)
                if found is not None:
                    return lengths_at(found, facts.names)
    return None
