"""Scripts, facts and lengths as tuples, as point 14 of the document tells, and what such tuples tell."""

from math import gcd

from slackstrings.errors import QuestionError, ShapeError, SizeError
from slackstrings.forms import Form, is_form_over
from slackstrings.kinds import are_small_letters, is_number, is_one_of, is_row
from slackstrings.limits import MOST_FACTS, MOST_STRINGS
from slackstrings.puppets import Puppet
from slackstrings.ratios import Ratio
from slackstrings.scripts import Script


def script_form(script):
    """The form of a script."""
    puppet, start = script.puppet, script.start
    heights = tuple([(hook, start[hook]) for hook in puppet.hooks])
    return (puppet.parts, puppet.ties, puppet.hooks, puppet.strings), heights, script.moves


def facts_form(facts):
    """The form of facts."""
    return facts.names, tuple([(form.constant, form.terms) for form in facts.forms])


def lengths_form(lengths):
    """The tuple that tells lengths."""
    return tuple([(name, lengths[name].top, lengths[name].bottom) for name in sorted(lengths)])


def script_in(value):
    """The script of which value is the form; None if there is none."""
    if not is_row(value, 3, 3) or not is_row(value[0], 4, 4):
        return None
    (parts, ties, hooks, strings), start, moves = value
    try:
        puppet = Puppet(parts, ties, hooks, strings)
        return Script(puppet, start_in(start, hooks), moves)
    except (ShapeError, QuestionError, SizeError):
        return None


def start_in(value, hooks):
    """The dict that a tuple of pairs of these hooks, in their order, and of heights tells; None if it tells none."""
    if not is_row(value, len(hooks), len(hooks)):
        return None
    if not all([is_row(pair, 2, 2) and is_one_of(pair[0], hook) for pair, hook in zip(value, hooks)]):
        return None
    return dict(value)


def facts_in(value):
    """The names and the forms of the facts of which value is the form; None if there are none.

    Perhaps no lengths keep them, so they are not made Facts.
    """
    if not is_row(value, 2, 2) or not are_small_letters(value[0], MOST_STRINGS) or not is_row(value[1], 0, MOST_FACTS):
        return None
    forms = [form_in(each) for each in value[1]]
    return (value[0], forms) if all([is_form_over(form, value[0]) for form in forms]) else None


def form_in(value):
    """The form that a pair of its constant and its terms tells; None if value is none."""
    if not is_row(value, 2, 2):
        return None
    try:
        return Form(value[0], value[1])
    except ShapeError:
        return None


def lengths_in(value, names):
    """The lengths for just these names that a tuple tells; None if it tells none."""
    if not is_row(value, len(names), len(names)):
        return None
    if not all([is_length_of(name, each) for name, each in zip(names, value)]):
        return None
    return {name: Ratio(top, bottom) for name, top, bottom in value}


def is_length_of(name, value):
    """Whether value is a triple of a name, and of top and bottom of a length in lowest terms."""
    if not is_row(value, 3, 3) or not is_one_of(value[0], name) or not is_number(value[1]) or not is_number(value[2]):
        return False
    return value[2] > 0 and gcd(value[1], value[2]) == 1
