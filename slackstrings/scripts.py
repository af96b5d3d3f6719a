"""Scripts: moves of hooks, done one behind the other; and what they do for lengths that are told."""

from slackstrings.errors import InvalidHeights, InvalidLengths, InvalidMoment, InvalidMoves, NotAPuppet, NoWay
from slackstrings.errors import TooMany, UnknownHook
from slackstrings.kinds import are_capitals, has_just, is_one_of, is_row, is_whole, moment_at
from slackstrings.lengths import are_lengths, greatest_of
from slackstrings.limits import MOST_AMOUNT, MOST_HAULS, MOST_HOOKS, MOST_MOVES
from slackstrings.puppets import Puppet
from slackstrings.ratios import Ratio, as_ratio


class Script:
    """A puppet, heights of its hooks in the beginning, and moves."""

    def __init__(self, puppet, start, moves=()):
        if not isinstance(puppet, Puppet):
            raise NotAPuppet(puppet)
        if not has_just(start, puppet.hooks) or not all([is_amount(start[hook]) for hook in puppet.hooks]):
            raise InvalidHeights(start)
        check_moves(moves, puppet)
        self.puppet = puppet
        self.moves = moves
        self._start = {hook: start[hook] for hook in puppet.hooks}

    @property
    def start(self):
        """A new dict from the hooks to their heights in the beginning."""
        return {hook: self._start[hook] for hook in self.puppet.hooks}

    def __eq__(self, other):
        return isinstance(other, Script) and self.puppet == other.puppet and self._start == other._start \
            and self.moves == other.moves

    def __len__(self):
        return len(self.moves)

    def then(self, move):
        """The script with one more move behind the others."""
        return Script(self.puppet, self._start, (*self.moves, move))

    def run(self, lengths):
        """The run of this script for these lengths of the strings."""
        if not are_lengths(lengths, self.puppet.names):
            raise InvalidLengths(lengths)
        return Run(self, lengths)


class Run:
    """How high hooks and parts are at the moments of a script, for lengths that are told."""

    def __init__(self, script, lengths):
        self.script = script
        self._lengths = {name: as_ratio(lengths[name]) for name in script.puppet.names}
        self._hooks = heights_along(script, self._lengths)

    @property
    def lengths(self):
        """A new dict from the names of the strings to their lengths."""
        return {name: self._lengths[name] for name in self.script.puppet.names}

    def __len__(self):
        return len(self._hooks)

    def hook(self, moment, hook):
        """The height of a hook at a moment, a Ratio."""
        hooks = self.hooks_at(moment)
        if not is_one_of(hook, self.script.puppet.hooks):
            raise UnknownHook(hook)
        return hooks[hook]

    def height(self, moment, part):
        """The height of a part at a moment, a Ratio."""
        return greatest_of(self.script.puppet.holding(part, self.hooks_at(moment), self._lengths))

    def taut(self, moment):
        """The names of the strings that are taut at a moment."""
        return self.script.puppet.taut(self.hooks_at(moment), self._lengths)

    def hooks_at(self, moment):
        """The heights of the hooks at a moment."""
        at = moment_at(moment, len(self.script.moves))
        if at is None:
            raise InvalidMoment(moment)
        return self._hooks[at]


def is_amount(value):
    """Whether value is an integer that may stand in a start or a move."""
    return is_whole(value) and -MOST_AMOUNT <= value <= MOST_AMOUNT


def check_moves(moves, puppet):
    """Raises the error of what are no moves of a script with this puppet."""
    if not is_row(moves, 0, MOST_MOVES):
        raise InvalidMoves(None)
    for index, move in enumerate(moves):
        if not is_move(move, puppet):
            raise InvalidMoves(index)
    if len([move for move in moves if is_haul(move)]) > MOST_HAULS:
        raise TooMany(MOST_HAULS)
    for index, move in enumerate(moves):
        if is_haul(move) and not puppet.has_way(move[1], move[2]):
            raise NoWay(index)


def is_move(value, puppet):
    """Whether value is a move of the text, of hooks and parts that the puppet has."""
    if not is_row(value, 3, 4) or not isinstance(value[0], str):
        return False
    if value[0] == "move":
        return len(value) == 3 and are_hooks(value[1], puppet.hooks) and is_amount(value[2])
    if not is_one_of(value[1], puppet.hooks) or not is_one_of(value[2], puppet.parts):
        return False
    if value[0] == "hold":
        return len(value) == 4 and is_amount(value[3])
    return value[0] in ("lift", "ease") and len(value) == 3


def are_hooks(value, hooks):
    """Whether value is a string of different ones of some hooks in alphabetical order."""
    return are_capitals(value, MOST_HOOKS) and all([hook in hooks for hook in value])


def is_haul(move):
    """Whether a move hauls a hook by as much as the lengths of the strings make of it."""
    return move[0] != "move"


def heights_along(script, lengths):
    """The heights of the hooks at each moment of a script, Ratios."""
    hooks = {hook: Ratio(height) for hook, height in script.start.items()}
    found = [hooks]
    for move in script.moves:
        hooks = hooks_behind(move, script.puppet, hooks, lengths)
        found.append(hooks)
    return found


def hooks_behind(move, puppet, hooks, lengths):
    """The heights of the hooks behind a move, for their heights ahead of it."""
    if is_haul(move):
        return {**hooks, move[1]: hooks[move[1]] + rise_of(move, puppet, hooks, lengths)}
    return {hook: height + move[2] if hook in move[1] else height for hook, height in hooks.items()}


def rise_of(move, puppet, hooks, lengths):
    """By how much a haul raises its hook; below 0 if the hook goes down."""
    hook, part = move[1], move[2]
    ends = puppet.hooks_to(part)
    floor, *holds = puppet.holding(part, hooks, lengths)
    own = greatest_of([height for end, height in zip(ends, holds) if end == hook])
    if move[0] == "hold":
        return greatest_of([Ratio(0), move[3] - own])
    others = greatest_of([floor, *[height for end, height in zip(ends, holds) if end != hook]])
    height_there = greatest_of([own, others])
    return height_there - own if move[0] == "lift" else others - height_there
