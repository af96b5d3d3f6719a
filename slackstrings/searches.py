"""Searches for lengths for which something holds, some of it strictly.

Regions for searches have one coordinate more than there are lengths, the slack, which is at most 1. That a form
is above 0 is asked as: the form less the slack is not below 0. So lengths are found if the slack can be above 0.
"""

from slackstrings.courses import Plan, both_courses, courses
from slackstrings.facts import lengths_at
from slackstrings.holds import tops_of_level
from slackstrings.ratios import Ratio
from slackstrings.regions import greatests, kept, orthant, topped
from slackstrings.vectors import minus, opposite, raised, times, vector_of
from slackstrings.wishes import levels_in, surplus_of


def search_region(facts, loosened):
    """The lengths that keep facts, with a slack; behind it one more coordinate, which the loosened fact has more.

    loosened is the index of a fact, or None: then there is no such coordinate.
    """
    many = len(facts.names)
    region = orthant(many + 1 if loosened is None else many + 2)
    region = kept(region, (1,) + (0,) * many + (-1,))
    for index, form in enumerate(facts.forms):
        vector = vector_of(form, facts.names)
        region = kept(region, (*vector, 0, 1) if index == loosened else vector)
    return slackened(region, many)


def slackened(region, many):
    """The region, behind so many lengths with a slack, from a corner with a slack above 0; None if there is none."""
    if region is None or region.rows[many][0] > 0:
        return region
    top = slack_climbed(region, many)
    return top.without_last() if top.last_height() > 0 else None


def slack_climbed(region, many):
    """The region from a corner at which its last condition, the slack once more, is above 0 or as high as it can be."""
    # The slack is at most 1, so it does not rise without a bound.
    top, _ = region.with_last(region.forms[many]).climbed(1)
    return top


def kept_at_least(region, form):
    """The part of a region for searches in which a form over the lengths is not below 0; None if there is none."""
    return slackened(kept(region, form), len(form) - 1)


def kept_above(region, form):
    """The part of a region for searches in which a form over the lengths is above 0; None if there is none."""
    return slackened(kept(region, (*form, -1)), len(form) - 1)


def found_for_sights(script, facts, sights):
    """A new dict of lengths that keep the facts and lead to all sights; None if there are none."""
    plan = Plan(script, facts.names, [], sights)
    region = facts.region
    for cell, _ in courses(plan, region):
        return lengths_at(cell, facts.names)
    return None


def found_for_wish(script, facts, form, wanted, sights=()):
    """The same for lengths for which, besides, a wish of this form is met or, if not wanted, is not."""
    plan = Plan(script, facts.names, levels_in(form), sights)
    region = part_for_wish(plan, search_region(facts, None), form, wanted)
    return None if region is None else lengths_at(region, facts.names)


def part_for_wish(plan, region, form, wanted):
    """A part of a region for searches in which a wish of this form is met or, if not wanted, is not; else None.

    The plan is that of the levels in the wish.
    """
    for cell, moments in courses(plan, region):
        tops = {level: tops_of_level(level, plan.script, moments, plan.names) for level in levels_in(form)}
        found = part_for_goals(cell, tops, [(form, wanted)])
        if found is not None:
            return found
    return None


def part_for_goals(region, tops, goals):
    """A part of a region in which all goals are met, pairs of a form of a wish and how it is wanted; else None.

    tops has for each level the vectors of which it is the greatest.
    """
    if not goals:
        return region
    form, wanted = goals[0]
    if form[0] == "over":
        return part_for_over(region, tops, goals)
    smaller = smaller_goals(form, wanted)
    if (form[0] == "and") == wanted:
        return part_for_goals(region, tops, [*smaller, *goals[1:]])
    for goal in smaller:
        found = part_for_goals(region, tops, [goal, *goals[1:]])
        if found is not None:
            return found
    return None


def smaller_goals(form, wanted):
    """The goals, all or one of them, that make up the goal of a form that is no over."""
    if form[0] == "not":
        return [(form[1], not wanted)]
    if form[0] == "if":
        return [(form[1], not wanted), (form[2], wanted)]
    return [(each, wanted) for each in form[1:]]


def part_for_over(region, tops, goals):
    """The same where the first goal is that of an over."""
    form, wanted = goals[0]
    high, low = (form[1], form[2]) if wanted else (form[2], form[1])
    top, bottom = surplus_of(form)
    vectors = tops[high]
    for cell, vector in greatests(region, vectors):
        known = {**tops, high: [vector]}
        part = slackened(cell, len(vector) - 1)
        for other in known[low]:
            if part is not None:
                look = times(minus(vector, other), bottom)
                part = kept_at_least(part, raised(look, -top)) if wanted else kept_above(part, raised(look, top))
        found = None if part is None else part_for_goals(part, known, goals[1:])
        if found is not None:
            return found
    return None


def lengths_apart(script, other, facts, levels):
    """A new dict of lengths that keep the facts and for which some level of both scripts differs; None if none does."""
    names = facts.names
    plan, plan_there = Plan(script, names, levels), Plan(other, names, levels)
    region = search_region(facts, None)
    for cell, moments, moments_there in both_courses(plan, plan_there, region):
        for level in levels:
            tops = tops_of_level(level, script, moments, names)
            tops_there = tops_of_level(level, other, moments_there, names)
            for highs, lows in ((tops, tops_there), (tops_there, tops)):
                found = part_apart(cell, highs, lows)
                if found is not None:
                    return lengths_at(found, names)
    return None


def part_apart(region, highs, lows):
    """A part of a region for searches in which the greatest of some vectors is above that of others; else None."""
    for high in highs:
        part = None if high in lows else region
        for low in lows:
            if part is not None:
                part = kept_above(part, minus(high, low))
        if part is not None:
            return part
    return None


def least_loosening(part, facts):
    """By how much a fact is loosened at least in a part of a region for searches with a loosened fact; a Ratio."""
    top = topped(part, opposite(loosening(facts)))
    return Ratio(-top.last_height(), top.scale)


def part_loosened_less(region, facts, amount):
    """The part of a region with a loosened fact in which it is loosened by less than an amount; None if none is."""
    slack = (0,) * (len(facts.names) + 1) + (1, 0)
    less = raised(opposite(times(loosening(facts), amount.bottom)), amount.top)
    return slackened(kept(region, minus(less, slack)), len(facts.names))


def loosening(facts):
    """The vector of the coordinate that a loosened fact has more."""
    return (0,) * (len(facts.names) + 2) + (1,)
