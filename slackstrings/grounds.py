"""Grounds: the conditions that are gathered along a walk, until no lengths keep them all."""

from slackstrings.regions import limited
from slackstrings.searches import search_region, slack_climbed


class Grounds:
    """Conditions in their order, of which places tells those that limit the region, with None for what is none of them.

    The region is one for searches, from a corner with a slack above 0. weights is None as long as there is such
    a corner; then it tells how often each condition is to be taken to see that no lengths keep them all.
    """

    def __init__(self, region, places, many, weights):
        self.region = region
        self.places = places
        self.many = many
        self.weights = weights

    def with_condition(self, vector):
        """The same with one more condition: a vector that is not below 0."""
        return self.limited_by(vector)

    def with_strict(self, vector):
        """The same with one more condition: a vector that is above 0."""
        # A search asks this as: the vector less the slack is not below 0.
        return self.limited_by((*vector, -1))

    def limited_by(self, form):
        """The same with one more condition, as a form over the lengths and perhaps the slack."""
        many = self.many + 1
        if self.weights is not None:
            return Grounds(self.region, self.places, many, (*self.weights, 0))
        # What holds in the whole region is left out of it: this keeps it small.
        if min(self.region.seen(form)) >= 0:
            return Grounds(self.region, self.places, many, None)
        places = [*self.places, self.many]
        inner = limited(self.region, form)
        if inner.last_height() < 0:
            return Grounds(inner, places, many, weights_at([*inner.shares(), inner.scale], places, many))
        return slack_kept(inner, places, many)


def grounds_of(facts):
    """The grounds of which the conditions are the lengths and then the facts."""
    size = len(facts.names)
    # Behind the lengths, a region for searches has the slack and that it is at most 1.
    places = [*list(range(size)), None, None, *list(range(size, size + len(facts.forms)))]
    return Grounds(search_region(facts, None), places, size + len(facts.forms), None)


def slack_kept(region, places, many):
    """Grounds with a region in which the slack may be 0 at the corner, and perhaps everywhere."""
    slack = places.index(None)
    if region.rows[slack][0] > 0:
        return Grounds(region, places, many, None)
    top = slack_climbed(region, slack)
    if top.last_height() > 0:
        return Grounds(top.without_last(), places, many, None)
    return Grounds(region, places, many, weights_at(top.shares(), places, many))


def weights_at(shares, places, many):
    """How often each of so many conditions is taken, as the shares of the conditions of a region tell."""
    found = [0] * many
    for share, place in zip(shares, places):
        if place is not None:
            found[place] = share
    return tuple(found)
