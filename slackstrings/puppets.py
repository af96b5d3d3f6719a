"""Puppets: parts that are tied to one another and hang by strings from hooks."""

from slackstrings.errors import InvalidHeights, InvalidHooks, InvalidLengths, InvalidParts, InvalidStrings
from slackstrings.errors import InvalidTies, UnknownHook, UnknownName, UnknownPart
from slackstrings.kinds import are_capitals, is_number, is_one_of, is_row, is_small_letter, is_word
from slackstrings.lengths import are_heights, are_lengths, greatest_of
from slackstrings.limits import MOST_AMOUNT, MOST_HOOKS, MOST_PARTS, MOST_STRINGS, MOST_TIES
from slackstrings.ratios import Ratio, as_ratio


class Puppet:
    """Parts, ties between them, hooks, and strings from hooks to parts."""

    def __init__(self, parts, ties, hooks, strings):
        check_parts(parts)
        check_ties(ties, parts)
        if not are_capitals(hooks, MOST_HOOKS):
            raise InvalidHooks(hooks)
        check_strings(strings, hooks, parts)
        self.parts = parts
        self.ties = ties
        self.hooks = hooks
        self.strings = strings
        self.names = "".join([name for name, _, _ in strings])
        self.distances = distances_of(parts, ties)

    def __eq__(self, other):
        return isinstance(other, Puppet) and self.parts == other.parts and self.ties == other.ties \
            and self.hooks == other.hooks and self.strings == other.strings

    def distance(self, part, other):
        """The least sum of reaches of ties that lead from one part to another; None if none lead there."""
        for each in (part, other):
            if not is_one_of(each, self.parts):
                raise UnknownPart(each)
        return self.distances.get((part, other))

    def has_way(self, hook, part):
        """Whether a string of the hook leads to a part that has a distance to this one."""
        if not is_one_of(hook, self.hooks):
            raise UnknownHook(hook)
        return hook in self.hooks_to(part)

    def heights(self, hooks, lengths):
        """A new dict from the parts to their heights, for heights of the hooks and lengths of the strings."""
        self.check_told(hooks, lengths)
        return {part: greatest_of(self.holding(part, hooks, lengths)) for part in self.parts}

    def taut(self, hooks, lengths):
        """The names of the strings that hold their own parts just at their heights."""
        found = self.heights(hooks, lengths)
        return "".join([name for name, hook, part in self.strings if hooks[hook] - lengths[name] == found[part]])

    def without(self, names):
        """The puppet without the strings of these names."""
        if not isinstance(names, str) or not all([is_one_of(name, self.names) for name in names]):
            raise UnknownName(names)
        if len(set(names)) < len(names):
            raise UnknownName(names)
        left = tuple([string for string in self.strings if string[0] not in list(names)])
        # If none is left, this raises InvalidStrings(None).
        return Puppet(self.parts, self.ties, self.hooks, left)

    def check_told(self, hooks, lengths):
        """Raises the error of what does not give each hook a height, and each string a length."""
        if not are_heights(hooks, self.hooks):
            raise InvalidHeights(hooks)
        if not are_lengths(lengths, self.names):
            raise InvalidLengths(lengths)

    def pulls(self, part):
        """The strings that can hold a part: for each its name, its hook and the distance from its own part."""
        if not is_one_of(part, self.parts):
            raise UnknownPart(part)
        ways = [(name, hook, self.distances.get((end, part))) for name, hook, end in self.strings]
        return [way for way in ways if way[2] is not None]

    def hooks_to(self, part):
        """The hooks that have a way to a part, one for each string that gives it."""
        return [hook for _, hook, _ in self.pulls(part)]

    def holding(self, part, hooks, lengths):
        """Heights below which a part cannot sink: that of the floor, and those at which the strings hold it."""
        found = [hooks[hook] - lengths[name] - distance for name, hook, distance in self.pulls(part)]
        return [Ratio(0), *[as_ratio(height) for height in found]]


def check_parts(parts):
    """Raises InvalidParts for what are no parts of a puppet."""
    if not is_row(parts, 1, MOST_PARTS):
        raise InvalidParts(None)
    for index, part in enumerate(parts):
        if not is_word(part) or part in parts[:index]:
            raise InvalidParts(index)


def check_ties(ties, parts):
    """Raises InvalidTies for what are no ties between these parts."""
    if not is_row(ties, 0, MOST_TIES):
        raise InvalidTies(None)
    for index, tie in enumerate(ties):
        if not is_tie(tie, parts) or is_tied(tie[0], tie[1], ties[:index]):
            raise InvalidTies(index)


def is_tie(value, parts):
    """Whether value is a triple of two different parts and a reach."""
    if not is_row(value, 3, 3) or not is_one_of(value[0], parts) or not is_one_of(value[1], parts):
        return False
    return value[0] != value[1] and is_number(value[2]) and value[2] <= MOST_AMOUNT


def is_tied(part, other, ties):
    """Whether one of some ties is between two parts."""
    return any([(one, two) in ((part, other), (other, part)) for one, two, _ in ties])


def check_strings(strings, hooks, parts):
    """Raises InvalidStrings for what are no strings from these hooks to these parts."""
    if not is_row(strings, 1, MOST_STRINGS):
        raise InvalidStrings(None)
    for index, string in enumerate(strings):
        if not is_string(string, hooks, parts) or (index > 0 and string[0] <= strings[index - 1][0]):
            raise InvalidStrings(index)


def is_string(value, hooks, parts):
    """Whether value is a triple of a small letter, a hook and a part."""
    return is_row(value, 3, 3) and is_small_letter(value[0]) and is_one_of(value[1], hooks) \
        and is_one_of(value[2], parts)


def distances_of(parts, ties):
    """The distances of all pairs of parts between which ties lead."""
    found = {(part, part): 0 for part in parts}
    for part, other, reach in ties:
        found[part, other] = reach
        found[other, part] = reach
    for middle in parts:
        for part in parts:
            for other in parts:
                shorten(found, part, middle, other)
    return found


def shorten(distances, part, middle, other):
    """Sets the distance of two parts to that of the way by way of a third one, if this is shorter."""
    first = distances.get((part, middle))
    second = distances.get((middle, other))
    if first is None or second is None:
        return
    known = distances.get((part, other))
    if known is None or first + second < known:
        distances[part, other] = first + second
