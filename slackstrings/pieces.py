"""Pieces: parts of the lengths in which all heights at all moments are forms."""

from slackstrings.checks import check_facts
from slackstrings.courses import ends_of
from slackstrings.errors import InvalidMoment, UnknownHook, UnknownPart
from slackstrings.facts import lengths_at
from slackstrings.holds import starting, tops_of_part
from slackstrings.kinds import is_one_of, moment_at
from slackstrings.regions import greatests
from slackstrings.vectors import form_of


class Piece:
    """Lengths that keep facts and some conditions, with the forms of all heights there."""

    def __init__(self, script, facts, region, rows):
        own = region.forms[len(facts.names) + len(facts.forms):]
        self.conditions = tuple([form_of(vector, facts.names) for vector in own])
        self._script = script
        self._facts = facts
        self._region = region
        self._rows = rows

    def hook(self, moment, hook):
        """The form of the height of a hook at a moment."""
        hooks, _ = self.row_at(moment)
        if not is_one_of(hook, self._script.puppet.hooks):
            raise UnknownHook(hook)
        return form_of(hooks[hook], self._facts.names)

    def height(self, moment, part):
        """The form of the height of a part at a moment."""
        _, parts = self.row_at(moment)
        if not is_one_of(part, self._script.puppet.parts):
            raise UnknownPart(part)
        return form_of(parts[part], self._facts.names)

    def some(self):
        """A new dict of some lengths that keep the facts and the conditions."""
        return lengths_at(self._region, self._facts.names)

    def has(self, lengths):
        """Whether lengths keep the facts and the conditions."""
        return self._facts.keeps(lengths) and all([form.at(lengths).top >= 0 for form in self.conditions])

    def row_at(self, moment):
        """The vectors of the hooks and those of the parts at a moment."""
        at = moment_at(moment, len(self._rows) - 1)
        if at is None:
            raise InvalidMoment(moment)
        return self._rows[at]


def pieces(script, facts):
    """A list of pieces in which, together, all lengths that keep the facts lie."""
    check_facts(script, facts)
    hooks = starting(script, facts.names)
    region = facts.region
    rows = []
    return [Piece(script, facts, cell, told) for cell, told in told_courses(script, region, rows, hooks)]


def told_courses(script, region, rows, hooks):
    """Cells that cover a region, each with the vectors of the hooks and the parts at all moments.

    rows has them for the moments that have been, and hooks are those at the next moment.
    """
    puppet = script.puppet
    parts = puppet.parts
    found = {}
    for cell, heights in told_parts(puppet, region, hooks, parts, found):
        longer = [*rows, (hooks, heights)]
        if len(longer) > len(script.moves):
            yield cell, longer
        else:
            move = script.moves[len(rows)]
            for inner, moved in ends_of(move, puppet, puppet.names, cell, hooks):
                yield from told_courses(script, inner, longer, moved)


def told_parts(puppet, region, hooks, parts, found):
    """Cells that cover a region, each with the vectors of the heights of some parts, those found among them."""
    if not parts:
        yield region, found
        return
    part, *others = parts
    tops = tops_of_part(part, puppet, hooks, puppet.names)
    for cell, vector in greatests(region, tops):
        longer = {**found, part: vector}
        yield from told_parts(puppet, cell, hooks, others, longer)
