"""Wishes: what levels are to be at least, put together by words."""

from math import gcd

from slackstrings.errors import InvalidText, InvalidWish, NotARun, NotAScript, NotAWish
from slackstrings.kinds import is_row, is_whole
from slackstrings.levels import is_level, is_level_over, level_in, level_text
from slackstrings.limits import MOST_DEPTH, MOST_OVERS, MOST_WISHES
from slackstrings.ratios import Ratio, ratio_in
from slackstrings.scripts import Run, Script


class Wish:
    """A form of point 9 of the document, which holds in a run or does not."""

    def __init__(self, form):
        if not is_wish_form(form):
            raise InvalidWish(form)
        self.form = form

    def __eq__(self, other):
        return isinstance(other, Wish) and self.form == other.form

    def __str__(self):
        return str(wish_text(self.form))

    @staticmethod
    def read(text):
        """The wish with just this text."""
        form = wish_form_in(text) if isinstance(text, str) else None
        # Texts such as "(over a b 4/2)" can be understood, but str gives others.
        if not is_wish_form(form) or wish_text(form) != text:
            raise InvalidText(text)
        return Wish(form)

    def both(self, other):
        """The wish that this one and another one hold."""
        if not isinstance(other, Wish):
            raise NotAWish(other)
        return Wish(("and", self.form, other.form))

    def either(self, other):
        """The wish that this one or another one holds."""
        if not isinstance(other, Wish):
            raise NotAWish(other)
        return Wish(("or", self.form, other.form))

    def implies(self, other):
        """The wish that another one holds, or this one does not."""
        if not isinstance(other, Wish):
            raise NotAWish(other)
        return Wish(("if", self.form, other.form))

    def denied(self):
        """The wish that this one does not hold."""
        return Wish(("not", self.form))

    def is_over(self, script):
        """Whether all hooks, parts, strings and moments are those of a script."""
        if not isinstance(script, Script):
            raise NotAScript(script)
        return all([is_level_over(level, script) for level in levels_in(self.form)])

    def holds(self, run):
        """Whether the wish holds in a run."""
        if not isinstance(run, Run):
            raise NotARun(run)
        if not self.is_over(run.script):
            raise InvalidWish(self.form)
        return is_met(self.form, run)


def is_wish_form(value):
    """Whether value is the form of a wish."""
    return is_shaped(value, 0) and len(overs_in(value)) <= MOST_OVERS


def is_shaped(value, depth):
    """Whether value, which lies at a depth in a wish, is the form of a wish but for the number of overs."""
    if depth > MOST_DEPTH or not is_row(value, 2, MOST_WISHES + 1) or not isinstance(value[0], str):
        return False
    if value[0] == "over":
        return len(value) == 4 and is_level(value[1]) and is_level(value[2]) and is_surplus(value[3])
    if not is_counted(value[0], len(value) - 1):
        return False
    return all([is_shaped(each, depth + 1) for each in value[1:]])


def is_counted(word, many):
    """Whether a word puts so many wishes together."""
    if word == "not":
        return many == 1
    if word == "if":
        return many == 2
    return word in ("and", "or") and 2 <= many <= MOST_WISHES


def is_surplus(value):
    """Whether value is an integer, or a pair of top and bottom in lowest terms with the bottom above 1."""
    if is_whole(value):
        return True
    if not is_row(value, 2, 2) or not is_whole(value[0]) or not is_whole(value[1]):
        return False
    return value[1] > 1 and gcd(value[0], value[1]) == 1


def surplus_of(form):
    """The fraction c of an over, as its top and its bottom."""
    surplus = form[3]
    return (surplus, 1) if is_whole(surplus) else surplus


def overs_in(form):
    """The forms of all overs in the form of a wish, from the left."""
    if form[0] == "over":
        return [form]
    found = []
    for each in form[1:]:
        found.extend(overs_in(each))
    return found


def levels_in(form):
    """The levels in the form of a wish, each once."""
    found = []
    for over in overs_in(form):
        for level in over[1:3]:
            if level not in found:
                found.append(level)
    return found


def is_met(form, run):
    """Whether a wish of this form holds in a run."""
    if form[0] == "over":
        top, bottom = surplus_of(form)
        return (level_in_run(form[1], run) - level_in_run(form[2], run)).compared(Ratio(top, bottom)) >= 0
    truths = [is_met(each, run) for each in form[1:]]
    if form[0] == "not":
        return not truths[0]
    if form[0] == "if":
        return truths[1] or not truths[0]
    return all(truths) if form[0] == "and" else any(truths)


def level_in_run(level, run):
    """The height of a level in a run, a Ratio."""
    if level[0] == "floor":
        return Ratio(0)
    if level[0] == "length":
        return run.lengths[level[1]]
    return run.hook(level[2], level[1]) if level[0] == "hook" else run.height(level[2], level[1])


def wish_text(form):
    """The text of a wish of this form."""
    if form[0] == "over":
        top, bottom = surplus_of(form)
        return f"(over {level_text(form[1])} {level_text(form[2])} {Ratio(top, bottom)!s})"
    inner = " ".join([wish_text(each) for each in form[1:]])
    return f"({form[0]} {inner})"


def wish_form_in(text):
    """What may be the form of the wish with this text, or of its beginning; None if there is none."""
    lists = []
    for word in text.replace("(", "( ").replace(")", " )").split(" "):
        if word == "(":
            lists.append([])
        elif not lists:
            return None
        elif word == ")":
            done = closed(lists.pop())
            if not lists:
                return done
            lists[-1].append(done)
        else:
            lists[-1].append(word)
    return None


def closed(words):
    """What may be a form: the elements of a list in round brackets, those of an over made levels and a number."""
    if len(words) == 4 and words[0] == "over" and all([isinstance(word, str) for word in words]):
        return "over", level_in(words[1]), level_in(words[2]), surplus_in(words[3])
    return tuple(words)


def surplus_in(text):
    """The fraction that a text tells, as in forms; None if it tells none."""
    found = ratio_in(text)
    if found is None:
        return None
    return found.top if found.bottom == 1 else (found.top, found.bottom)
