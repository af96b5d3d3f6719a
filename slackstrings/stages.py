"""Stages: scripts that are led move by move, with wishes that hold for all lengths at each of them."""

from slackstrings.errors import Busy, InvalidGuards, InvalidMoves, NotAPuppet, NotFacts, NothingToUndo, NoWay
from slackstrings.errors import OtherNames, Refused, TooMany
from slackstrings.facts import Facts
from slackstrings.kinds import is_row
from slackstrings.limits import MOST_GUARDS, MOST_HAULS, MOST_MOVES
from slackstrings.puppets import Puppet
from slackstrings.scripts import Script, is_haul, is_move
from slackstrings.searches import found_for_wish
from slackstrings.wishes import Wish, levels_in


class Stage:
    """A puppet in the hands of whoever plays it, and guards: wishes about the last moment that must always hold."""

    def __init__(self, puppet, facts, start, guards=()):
        if not isinstance(puppet, Puppet):
            raise NotAPuppet(puppet)
        if not isinstance(facts, Facts):
            raise NotFacts(facts)
        if facts.names != puppet.names:
            raise OtherNames(facts.names)
        script = Script(puppet, start)
        check_guards(guards, script)
        self.puppet = puppet
        self.facts = facts
        self.guards = guards
        self.busy = False
        self.check_allowed(script, None)
        self.script = script

    @property
    def log(self):
        """The moves done, as they were passed."""
        return self.script.moves

    def __len__(self):
        return len(self.script.moves)

    def do(self, move):
        """Does a move, unless some guard would not always hold behind it."""
        self.check_idle()
        self.go_on(move)

    def do_all(self, moves, *, watch=None):
        """Does all of some moves, or none; behind each of them watch is called with the stage and its index."""
        self.check_idle()
        if not isinstance(moves, tuple):
            raise InvalidMoves(None)
        for index, move in enumerate(moves):
            if not is_move(move, self.puppet):
                raise InvalidMoves(index)
        left = self.script
        self.busy = True
        try:
            for index, move in enumerate(moves):
                self.go_on(move)
                if watch is not None:
                    watch(self, index)
            left = self.script
        finally:
            self.script = left
            self.busy = False

    def undo(self):
        """Takes back the last move."""
        self.check_idle()
        script = self.script
        if not script.moves:
            raise NothingToUndo()
        self.script = Script(script.puppet, script.start, script.moves[:-1])

    def trial(self):
        """An object for `with`: behind its rows the stage is again as it was at their beginning."""
        self.check_idle()
        return Trial(self)

    def heights(self, lengths):
        """A new dict from the parts to their heights at the last moment, for told lengths."""
        run = self.script.run(lengths)
        return {part: run.height("last", part) for part in self.puppet.parts}

    def go_on(self, move):
        """Does a move, also while do_all is at work."""
        check_next(move, self.script)
        script = self.script.then(move)
        self.check_allowed(script, move)
        self.script = script

    def check_idle(self):
        """Raises Busy while do_all is at work."""
        if self.busy:
            raise Busy()

    def check_allowed(self, script, move):
        """Raises Refused, with a move, if some guard does not always hold behind a script."""
        for guard in self.guards:
            found = found_for_wish(script, self.facts, guard.form, False)
            if found is not None:
                raise Refused(move, found)


class Trial:
    """Brings its stage back to where it was, each time that the rows of a `with` end."""

    def __init__(self, stage):
        self.stage = stage
        self.mark = None

    def __enter__(self):
        self.mark = Mark(self.stage.script, self.mark)
        return self.stage

    def __exit__(self, kind, value, trace):
        # The stage stays busy if it is: whatever is at work goes on behind the rows.
        stage = self.stage
        stage.script = self.mark.script
        self.mark = self.mark.outer


class Mark:
    """Where a stage was when its trial was entered, and the mark of the rows around if it was entered there already."""

    def __init__(self, script, outer):
        self.script = script
        self.outer = outer


def attempt(stage, act):
    """What act returns for a stage, which is afterwards as it was before."""
    with stage.trial():
        return act(stage)


def check_guards(guards, script):
    """Raises InvalidGuards for what are no guards over a script without moves."""
    if not is_row(guards, 0, MOST_GUARDS):
        raise InvalidGuards(None)
    for index, guard in enumerate(guards):
        if not is_guard(guard, script):
            raise InvalidGuards(index)


def is_guard(value, script):
    """Whether value is a wish over a script in which all moments are the last one, by this name."""
    if not isinstance(value, Wish) or not value.is_over(script):
        return False
    return all([level[2] == "last" for level in levels_in(value.form) if len(level) == 3])


def check_next(move, script):
    """Raises the error of what cannot be the next move of a script."""
    if not is_move(move, script.puppet):
        raise InvalidMoves(0)
    if len(script.moves) == MOST_MOVES:
        raise TooMany(MOST_MOVES)
    if is_haul(move):
        if len([done for done in script.moves if is_haul(done)]) == MOST_HAULS:
            raise TooMany(MOST_HAULS)
        if not script.puppet.has_way(move[1], move[2]):
            raise NoWay(0)
