"""A small checker: whether a certificate shows that a claim is true, as point 14 of the document tells."""

from slackstrings.kinds import is_number, is_one_of, is_row
from slackstrings.papers import facts_in, lengths_in, script_in
from slackstrings.vectors import length_vector, opposite, plus, times, vector_of
from slackstrings.walks import rivalry, walk_through
from slackstrings.wishes import Wish, is_wish_form

CLAIMS = ("always", "never", "ever", "breach")


def holds_claim(claim, certificate):
    """Whether this is a claim and its certificate shows that it is true. Everything may be passed."""
    if not is_row(claim, 4, 4) or not is_one_of(claim[0], CLAIMS):
        return False
    word, script, facts, form = claim[0], script_in(claim[1]), facts_in(claim[2]), claim[3]
    if script is None or facts is None or facts[0] != script.puppet.names or not is_wish_form(form):
        return False
    wish = Wish(form)
    if not wish.is_over(script):
        return False
    if word in ("ever", "breach"):
        return is_shown_by_lengths(certificate, script, facts, wish, word == "ever")
    conditions = first_conditions(facts)
    return is_shown(certificate, walk_through(script, form), conditions, word == "always")


def is_shown_by_lengths(certificate, script, facts, wish, wanted):
    """Whether a certificate tells lengths that keep facts, and for which a wish holds or, if not wanted, does not."""
    names, forms = facts
    lengths = lengths_in(certificate, names)
    if lengths is None or not all([form.at(lengths).top >= 0 for form in forms]):
        return False
    return wish.holds(script.run(lengths)) == wanted


def first_conditions(facts):
    """The conditions at the beginning of a walk, each the vector of its form with whether it is strict."""
    names, forms = facts
    return [(vector, False) for vector in [*[length_vector(name, names) for name in names],
                                           *[vector_of(form, names) for form in forms]]]


def is_shown(paper, walk, conditions, wanted):
    """Whether a paper shows that a wish holds or, if not wanted, does not, for all lengths that keep the conditions."""
    if not is_row(paper, 1, 3) or not isinstance(paper[0], str):
        return False
    if paper[0] == "end":
        return len(paper) == 1 and walk.truth() == wanted
    if paper[0] == "none":
        return len(paper) == 2 and are_against(paper[1], conditions)
    if paper[0] == "most":
        return len(paper) == 2 and is_shown_by_each(paper[1], walk, conditions, wanted)
    return paper[0] == "look" and len(paper) == 3 and is_shown_by_both(paper, walk, conditions, wanted)


def is_shown_by_each(papers, walk, conditions, wanted):
    """Whether there is one paper for each candidate of the greatest one that comes next, and each shows it."""
    candidates = walk.candidates()
    if candidates is None or not is_row(papers, len(candidates), len(candidates)):
        return False
    for index, paper in enumerate(papers):
        more = [*conditions, *[(vector, False) for vector in rivalry(candidates, index)]]
        if not is_shown(paper, walk.took(candidates[index]), more, wanted):
            return False
    return True


def is_shown_by_both(paper, walk, conditions, wanted):
    """Whether a look comes next, and both papers of a paper show it, whether the over is true or false."""
    form = walk.look()
    if form is None:
        return False
    if not is_shown(paper[1], walk.looked(True), [*conditions, (form, False)], wanted):
        return False
    return is_shown(paper[2], walk.looked(False), [*conditions, (opposite(form), True)], wanted)


def are_against(weights, conditions):
    """Whether no lengths keep the conditions, as the sum of them all shows, each taken as often as its weight says."""
    if not is_row(weights, len(conditions), len(conditions)) or not all([is_number(weight) for weight in weights]):
        return False
    total = times(conditions[0][0], 0)
    strict = False
    for (vector, above), weight in zip(conditions, weights):
        total = plus(total, times(vector, weight))
        strict = strict or above and weight > 0
    if any([number != 0 for number in total[1:]]):
        return False
    return total[0] < 0 or total[0] == 0 and strict
