"""Vectors of which heights are the greatest ones, for the vectors of the hooks.

names are those of the lengths that the vectors are over. A puppet may have fewer strings, if some were left out.
"""

from slackstrings.levels import moment_of
from slackstrings.vectors import constant_vector, length_vector, minus, raised


def starting(script, names):
    """The vectors of the hooks at the moment 0."""
    return {hook: constant_vector(height, names) for hook, height in script.start.items()}


def shifted(hooks, moved, amount):
    """The vectors of the hooks when those of a string have gone up by an integer."""
    return {hook: raised(vector, amount) if hook in moved else vector for hook, vector in hooks.items()}


def others_than(hook, hooks):
    """The vectors of the hooks without that of one of them."""
    return {other: hooks[other] for other in hooks if other != hook}


def reaches_of(hook, puppet, part, names):
    """Vectors of how far below a hook its strings hold a part."""
    return [raised(length_vector(name, names), distance)
            for name, end, distance in puppet.pulls(part) if end == hook]


def holds_of(part, puppet, hooks, names):
    """Vectors of what the strings of these hooks hold a part at, in the order of their names."""
    return [minus(hooks[end], raised(length_vector(name, names), distance))
            for name, end, distance in puppet.pulls(part) if end in hooks]


def tops_of_part(part, puppet, hooks, names):
    """Vectors whose greatest is the height of a part, so far as the floor and these hooks hold it."""
    return [constant_vector(0, names), *holds_of(part, puppet, hooks, names)]


def tops_of_level(level, script, moments, names):
    """Vectors whose greatest is a level of a script, for the vectors of the hooks at all moments."""
    if level[0] == "floor":
        return [constant_vector(0, names)]
    if level[0] == "length":
        return [length_vector(level[1], names)]
    hooks = moments[moment_of(level, script)]
    return [hooks[level[1]]] if level[0] == "hook" else tops_of_part(level[1], script.puppet, hooks, names)
