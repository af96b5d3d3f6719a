"""Facts about lengths, and what follows from them for all lengths that keep them."""

from slackstrings.errors import Contradictory, InvalidFacts, InvalidForm, InvalidLengths, InvalidName, InvalidNumber
from slackstrings.forms import is_form_over
from slackstrings.kinds import are_small_letters, is_number, is_row
from slackstrings.lengths import are_lengths
from slackstrings.limits import MOST_FACTS, MOST_STRINGS
from slackstrings.regions import greatest_in, limited, orthant, topped
from slackstrings.vectors import opposite, vector_of


class Facts:
    """Forms of which none may be below 0, over the lengths of some names, of which none is below 0 either."""

    def __init__(self, names, forms=()):
        if not are_small_letters(names, MOST_STRINGS):
            raise InvalidName(names)
        if not is_row(forms, 0, MOST_FACTS):
            raise InvalidFacts(None)
        for index, form in enumerate(forms):
            if not is_form_over(form, names):
                raise InvalidFacts(index)
        self.names = names
        self.forms = forms
        # The first conditions of this region are the lengths, then come the facts.
        self.region = region_of(names, forms)

    def __eq__(self, other):
        return isinstance(other, Facts) and self.names == other.names and self.forms == other.forms

    def __len__(self):
        return len(self.forms)

    def keeps(self, lengths):
        """Whether lengths keep the facts."""
        if not are_lengths(lengths, self.names):
            raise InvalidLengths(lengths)
        return all([form.at(lengths).top >= 0 for form in self.forms])

    def some(self):
        """A new dict of some lengths that keep the facts."""
        return lengths_at(self.region, self.names)

    def greatest(self, form):
        """The greatest value of a form, a Ratio; None if there is no bound."""
        if not is_form_over(form, self.names):
            raise InvalidForm(form)
        return greatest_in(self.region, vector_of(form, self.names))

    def least(self, form):
        """The least value of a form, a Ratio; None if there is no bound."""
        if not is_form_over(form, self.names):
            raise InvalidForm(form)
        found = greatest_in(self.region, opposite(vector_of(form, self.names)))
        return None if found is None else -found

    def follows(self, form):
        """Whether a form is never below 0."""
        found = self.least(form)
        return found is not None and found.top >= 0

    def weighing(self, form):
        """How often a form, and how often each condition is to be taken to see that the form follows; else None."""
        if not is_form_over(form, self.names):
            raise InvalidForm(form)
        top = topped(self.region, opposite(vector_of(form, self.names)))
        if top is None or top.last_height() > 0:
            return None
        return top.scale, tuple(top.shares())

    def with_fact(self, form):
        """The facts with one more form behind the others."""
        return Facts(self.names, (*self.forms, form))

    def without_fact(self, index):
        """The facts without the form that has this index."""
        if not is_number(index) or index >= len(self.forms):
            raise InvalidNumber(index)
        return Facts(self.names, self.forms[:index] + self.forms[index + 1:])


def region_of(names, forms):
    """The region of the lengths that keep forms; Contradictory if there are none."""
    region = orthant(len(names))
    for index, form in enumerate(forms):
        region = limited(region, vector_of(form, names))
        if region.last_height() < 0:
            raise Contradictory(tuple([*region.shares(), region.scale, *[0] * (len(forms) - index - 1)]))
    return region


def lengths_at(region, names):
    """A new dict from names to the first coordinates of the corner of a region."""
    return dict(zip(names, region.point()))
