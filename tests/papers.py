"""Reads certificates by itself, step by step as the document tells, and takes claims and papers apart."""

from fractions import Fraction
from itertools import product
from math import gcd

from slackstrings.ratios import Ratio


def plus(one, other, times=1):
    """The sum of a form and some times another one; forms are dicts from names to numbers, the constant under ""."""
    return {name: one.get(name, 0) + times * other.get(name, 0) for name in {**one, **other}}


def form_of(pair):
    return {"": pair[0], **dict(pair[1])}


def distance(puppet, part, other):
    """The least sum of reaches from part to other, by trying all ways; None if there is none."""
    parts, ties, _, _ = puppet
    found = {part: 0}
    for _ in parts:
        for one, two, reach in ties:
            for here, there in ((one, two), (two, one)):
                if here in found:
                    found[there] = min(found.get(there, found[here] + reach), found[here] + reach)
    return found.get(other)


def holds(puppet, part, hooks):
    """What the strings of these hooks hold a part at, in the order of their names."""
    pulls = [(name, hook, distance(puppet, end, part)) for name, hook, end in puppet[3]]
    return [plus(plus(hooks[hook], {name: 1}, -1), {"": far}, -1)
            for name, hook, far in pulls if hook in hooks and far is not None]


def overs(form):
    return [form] if form[0] == "over" else [over for each in form[1:] for over in overs(each)]


def truth(form, truths):
    """Whether a wish is true, by an iterator of the truths of its overs."""
    if form[0] == "over":
        return next(truths)
    found = [truth(each, truths) for each in form[1:]]
    return {"not": lambda: not found[0], "and": lambda: all(found), "or": lambda: any(found),
            "if": lambda: found[1] or not found[0]}[form[0]]()


class Reading:
    """The walk through a claim; stops are triples of a word, what stands there, and what leads to the next stop."""

    def __init__(self, claim):
        self.word, (self.puppet, start, self.moves), self.facts, self.wish = claim
        self.overs = overs(self.wish)
        self.start = {hook: {"": height} for hook, height in start}

    def conditions(self):
        names, forms = self.facts
        return [({name: 1}, False) for name in names] + [(form_of(pair), False) for pair in forms]

    def behind(self, moments):
        """The stop behind the moments that have been."""
        at, hooks = len(moments) - 1, moments[-1]
        if at == len(self.moves):
            return self.look_at(moments, 0)
        kind, hook, *told = self.moves[at]
        if kind == "move":
            return self.behind([*moments, {each: plus(height, {"": told[0] * (each in hook)})
                                           for each, height in hooks.items()}])

        def risen(rise):
            return self.behind([*moments, {**hooks, hook: plus(hooks[hook], rise)}])
        height = [{"": 0}, *holds(self.puppet, told[0], hooks)]
        own = holds(self.puppet, told[0], {hook: hooks[hook]})
        others = [{"": 0}, *holds(self.puppet, told[0], {each: hooks[each] for each in hooks if each != hook})]
        if kind == "lift":
            return "most", height, lambda first: ("most", own, lambda second: risen(plus(first, second, -1)))
        if kind == "ease":
            return "most", height, lambda first: ("most", others, lambda second: risen(plus(second, first, -1)))
        return "most", own, lambda first: ("most", [{"": 0}, plus({"": told[1]}, first, -1)], risen)

    def look_at(self, moments, at):
        """The stop ahead of an over with this index."""
        if at == len(self.overs):
            return "over", None, None
        _, high, low, surplus = self.overs[at]
        top, bottom = (surplus, 1) if isinstance(surplus, int) else surplus

        def look(first, second):
            form = plus(plus(first, second, -1), {"": Fraction(top, bottom)}, -1)
            return "look", plus({}, form, bottom), lambda: self.look_at(moments, at + 1)
        return self.level(moments, high, lambda first: self.level(moments, low, lambda second: look(first, second)))

    def level(self, moments, level, then):
        if level[0] == "floor":
            return then({})
        if level[0] == "length":
            return then({level[1]: 1})
        hooks = moments[-1] if level[2] == "last" else moments[level[2]]
        if level[0] == "hook":
            return then(hooks[level[1]])
        return "most", [{"": 0}, *holds(self.puppet, level[1], hooks)], then

    def shows(self, paper, stop, conditions, truths):
        """Whether a paper is right from this stop on."""
        word, there, then = stop
        if paper[0] == "none":
            return against(paper[1], conditions)
        if paper[0] == "end":
            return len(paper) == 1 and self.settled(truths)
        if paper[0] != word:
            return False
        if word == "look":
            more = ((there, False), True), ((plus({}, there, -1), True), False)
            return len(paper) == 3 and all(
                self.shows(each, then(), [*conditions, condition], [*truths, taken])
                for each, (condition, taken) in zip(paper[1:], more))
        return len(paper) == 2 and len(paper[1]) == len(there) and all(
            self.shows(each, then(there[at]), conditions + [
                (plus(there[at], other, -1), False) for index, other in enumerate(there) if index != at], truths)
            for at, each in enumerate(paper[1]))

    def settled(self, truths):
        """Whether the wish is as claimed, whatever is taken of the looks that did not come yet."""
        left = len(self.overs) - len(truths)
        found = [truth(self.wish, iter([*truths, *rest])) for rest in product((True, False), repeat=left)]
        return all(found) if self.word == "always" else not any(found)


def against(weights, conditions):
    """Whether the sum of the conditions cannot be what it is."""
    if len(weights) != len(conditions) or any(weight < 0 for weight in weights):
        return False
    total = {}
    for weight, (form, _) in zip(weights, conditions):
        total = plus(total, form, weight)
    if any(number for name, number in total.items() if name):
        return False
    strict = any(weight and above for weight, (_, above) in zip(weights, conditions))
    return total[""] < 0 or total[""] == 0 and strict


def shows_paper(claim, paper):
    """Whether a paper is right for a claim "always" or "never" that is well formed."""
    reading = Reading(claim)
    return reading.shows(paper, reading.behind([reading.start]), reading.conditions(), [])


def shows_lengths(claim, told, script, wish):
    """Whether lengths are told as they must be, and keep the facts, and the wish is for them as claimed."""
    names, forms = claim[2]
    if [name for name, _, _ in told] != list(names):
        return False
    if any(top < 0 or bottom < 1 or gcd(top, bottom) != 1 for _, top, bottom in told):
        return False
    lengths = {name: Fraction(top, bottom) for name, top, bottom in told}
    if any(sum(number * lengths.get(name, 1) for name, number in form_of(pair).items()) < 0 for pair in forms):
        return False
    run = script.run({name: Ratio(top, bottom) for name, top, bottom in told})
    return wish.holds(run) == (claim[0] == "ever")


def leaves(value, path=()):
    """The paths to all values within nested tuples, with what is there."""
    yield path, value
    if isinstance(value, tuple):
        for at, each in enumerate(value):
            yield from leaves(each, (*path, at))


def replaced(value, path, other):
    """Nested tuples with another value at a path."""
    if not path:
        return other
    return (*value[:path[0]], replaced(value[path[0]], path[1:], other), *value[path[0] + 1:])


def depth(value):
    """How deep tuples are nested."""
    return 1 + max(map(depth, value), default=0) if isinstance(value, tuple) else 0
