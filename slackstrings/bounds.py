"""The greatest and the least of levels, for all lengths that keep facts and lead to sights."""

from slackstrings.courses import Plan, courses
from slackstrings.holds import tops_of_level
from slackstrings.ratios import Ratio
from slackstrings.regions import greatests, higher, topped
from slackstrings.vectors import opposite


def greatest_of_level(script, facts, level, sights=()):
    """The greatest value of a level, a Ratio; None if there is no bound. Some lengths lead to the sights."""
    top = top_of_level(script, facts, level, sights)
    return None if top is None else Ratio(top.last_height(), top.scale)


def least_of_level(script, facts, level, sights=()):
    """The least value of a level, a Ratio: there always is a bound. Some lengths lead to the sights."""
    top = top_below_level(script, facts, level, sights)
    return Ratio(-top.last_height(), top.scale)


def top_of_level(script, facts, level, sights=()):
    """A region from a corner at which its last form, a level, is as high as with any lengths; None if no bound."""
    plan = Plan(script, facts.names, [level], sights)
    found = None
    region = facts.region
    for cell, moments in courses(plan, region):
        for vector in tops_of_level(level, script, moments, facts.names):
            top = topped(cell, vector)
            if top is None:
                return None
            found = higher(found, top)
    return found


def top_below_level(script, facts, level, sights=()):
    """The same for the opposite of the level.

    It always has a bound: nothing is lowered further than by integers, or than where it holds a part at the floor.
    """
    plan = Plan(script, facts.names, [level], sights)
    found = None
    region = facts.region
    for cell, moments in courses(plan, region):
        tops = tops_of_level(level, script, moments, facts.names)
        for inner, vector in greatests(cell, tops):
            found = higher(found, topped(inner, opposite(vector)))
    return found
