"""Walks through claims: which greatest ones and looks come one behind the other, as point 14 of the document tells."""

from slackstrings.holds import holds_of, others_than, shifted, starting, tops_of_level, tops_of_part
from slackstrings.scripts import is_haul
from slackstrings.vectors import constant_vector, minus, plus, raised, times
from slackstrings.wishes import overs_in, surplus_of


class Walk:
    """A place on the way through a script and the form of a wish, with what was taken on the way.

    moments has the vectors of the hooks for each moment that was reached; taken has the vectors that were taken
    in the haul or in the over that is next, of two; looks tells for each look whether its over was taken as true.
    """

    def __init__(self, script, form, moments, taken, looks):
        self.script = script
        self.form = form
        self.moments = behind_plain_moves(moments, script)
        self.looks = looks
        at, overs = len(self.moments) - 1, overs_in(form)
        self.next_haul = script.moves[at] if at < len(script.moves) else None
        self.next_over = overs[len(looks)] if self.next_haul is None and len(looks) < len(overs) else None
        self.taken = taken if self.next_over is None else self.behind_plain_levels(taken)

    def behind_plain_levels(self, taken):
        """What is taken when the levels of the over that come next and are no parts are passed."""
        found = taken
        for level in self.next_over[1 + len(taken):3]:
            if level[0] == "part":
                break
            found = (*found, self.tops_of(level)[0])
        return found

    def tops_of(self, level):
        """Vectors whose greatest is a level at a moment that was reached."""
        return tops_of_level(level, self.script, self.moments, self.script.puppet.names)

    def candidates(self):
        """The vectors of the candidates, if a greatest one comes next; otherwise None."""
        if self.next_haul is not None:
            return candidates_of_haul(self.next_haul, self.script.puppet, self.moments[-1], self.taken)
        if self.next_over is None or len(self.taken) == 2:
            return None
        return self.tops_of(self.next_over[1 + len(self.taken)])

    def took(self, vector):
        """The walk behind the next greatest one, for which a candidate was taken."""
        taken = (*self.taken, vector)
        if self.next_haul is None or len(taken) < 2:
            return Walk(self.script, self.form, self.moments, taken, self.looks)
        moved = hauled_by(self.next_haul, self.moments[-1], taken)
        return Walk(self.script, self.form, [*self.moments, moved], (), self.looks)

    def look(self):
        """The vector of the look's form, if a look comes next; otherwise None."""
        if self.next_over is None or len(self.taken) < 2:
            return None
        top, bottom = surplus_of(self.next_over)
        return raised(times(minus(self.taken[0], self.taken[1]), bottom), -top)

    def looked(self, truth):
        """The walk behind the next look, in which the over was taken as true or false."""
        return Walk(self.script, self.form, self.moments, (), (*self.looks, truth))

    def truth(self):
        """Whether the wish is true by the looks so far, whatever the others are; None if that is not settled."""
        return truth_of(self.form, self.looks)


def walk_through(script, form):
    """The walk through a script and the form of a wish at its beginning."""
    return Walk(script, form, [starting(script, script.puppet.names)], (), ())


def behind_plain_moves(moments, script):
    """The vectors of the hooks at moments, also behind the moves that come next and are no hauls."""
    found = list(moments)
    for move in script.moves[len(moments) - 1:]:
        if is_haul(move):
            break
        found.append(shifted(found[-1], move[1], move[2]))
    return found


def candidates_of_haul(move, puppet, hooks, taken):
    """The vectors of the candidates for the next one of the two greatest ones of a haul."""
    kind, hook, part = move[:3]
    names = puppet.names
    if kind == "hold" and taken:
        return [constant_vector(0, names), minus(constant_vector(move[3], names), taken[0])]
    if kind == "hold" or kind == "lift" and taken:
        return holds_of(part, puppet, {hook: hooks[hook]}, names)
    return tops_of_part(part, puppet, others_than(hook, hooks) if taken else hooks, names)


def hauled_by(move, hooks, taken):
    """The vectors of the hooks behind a haul whose two greatest ones were taken."""
    first, second = taken
    if move[0] == "hold":
        rise = second
    else:
        rise = minus(first, second) if move[0] == "lift" else minus(second, first)
    return {**hooks, move[1]: plus(hooks[move[1]], rise)}


def rivalry(candidates, index):
    """The vectors of the conditions under which the candidate with an index is the greatest one."""
    return [minus(candidates[index], other) for at, other in enumerate(candidates) if at != index]


def truth_of(form, looks):
    """Whether a wish is true if its first overs were taken as looks tell, whatever the others are; None if not settled.

    Each over counts by itself, so that the parts of a wish are settled one without the other.
    """
    if form[0] == "over":
        return looks[0] if looks else None
    truths = []
    left = looks
    for each in form[1:]:
        truths.append(truth_of(each, left))
        left = left[len(overs_in(each)):]
    if form[0] == "not":
        return denied(truths[0])
    if form[0] == "and":
        return denied(any_of([denied(truth) for truth in truths]))
    return any_of(truths if form[0] == "or" else [denied(truths[0]), truths[1]])


def denied(truth):
    """The opposite of a truth, which may be open (None)."""
    return None if truth is None else not truth


def any_of(truths):
    """Whether some of several truths, which may be open (None), is True."""
    if True in truths:
        return True
    return None if None in truths else False
