"""Claims with their certificates, which the checker accepts."""

from slackstrings.checks import check_facts, check_wish
from slackstrings.grounds import grounds_of
from slackstrings.papers import facts_form, lengths_form, script_form
from slackstrings.searches import found_for_wish
from slackstrings.vectors import opposite
from slackstrings.walks import rivalry, walk_through


def certify_always(script, facts, wish):
    """A claim that a wish always holds, or that it does not for some lengths; and its certificate."""
    return certified(script, facts, wish, False, "breach", "always")


def certify_ever(script, facts, wish):
    """A claim that a wish holds for some lengths, or that it never does; and its certificate."""
    return certified(script, facts, wish, True, "ever", "never")


def certified(script, facts, wish, wanted, found_word, other_word):
    """A claim that lengths were found for which a wish is met or, if not wanted, is not; otherwise the other claim."""
    check_facts(script, facts)
    check_wish(wish, script)
    told = script_form(script), facts_form(facts), wish.form
    lengths = found_for_wish(script, facts, wish.form, wanted)
    if lengths is not None:
        return (found_word, *told), lengths_form(lengths)
    return (other_word, *told), paper_for(walk_through(script, wish.form), grounds_of(facts), not wanted)


def paper_for(walk, grounds, wanted):
    """A paper which shows that, on grounds, a wish holds or, if not wanted, does not. No lengths may be against it."""
    if grounds.weights is not None:
        return "none", grounds.weights
    if walk.truth() == wanted:
        return ("end",)
    candidates = walk.candidates()
    if candidates is not None:
        return "most", tuple([paper_for(walk.took(vector), grounds_under(grounds, rivalry(candidates, index)), wanted)
                              for index, vector in enumerate(candidates)])
    form = walk.look()
    return ("look", paper_for(walk.looked(True), grounds.with_condition(form), wanted),
            paper_for(walk.looked(False), grounds.with_strict(opposite(form)), wanted))


def grounds_under(grounds, vectors):
    """Grounds with more conditions: vectors that are not below 0."""
    found = grounds
    for vector in vectors:
        found = found.with_condition(vector)
    return found
