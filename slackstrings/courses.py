"""Courses: what a script does to the hooks for all lengths of a region, as vectors over the lengths.

Where heights are greatest ones of several forms, the region is parted into cells. In each of them one form
is the greatest throughout, so that the heights of the hooks are forms.
"""

from slackstrings.levels import hooks_of, moment_of
from slackstrings.regions import greatests
from slackstrings.scripts import is_haul
from slackstrings.vectors import constant_vector, length_vector, minus, opposite, raised


def courses(script, region, needed):
    """Cells that cover a region, each with the vectors of the hooks at all moments.

    needed tells for each move whether it is to be done if it is a haul: where it is not, the hook is left
    where it was, which nobody asks.
    """
    moments = [starting(script)]
    yield from courses_behind(moments, script, region, needed)


def courses_behind(moments, script, region, needed):
    """The same for a script of which some moments have been, with the vectors of the hooks at these."""
    at = len(moments) - 1
    if at == len(script.moves):
        yield region, moments
        return
    if is_haul(script.moves[at]) and not needed[at]:
        later = [*moments, moments[-1]]
        yield from courses_behind(later, script, region, needed)
        return
    move, hooks = script.moves[at], moments[-1]
    for cell, moved in ends_of(move, script.puppet, region, hooks):
        longer = [*moments, moved]
        yield from courses_behind(longer, script, cell, needed)


def starting(script):
    """The vectors of the hooks at the moment 0."""
    return {hook: constant_vector(height, script.puppet.names) for hook, height in script.start.items()}


def ends_of(move, puppet, region, hooks):
    """Cells that cover a region, each with the vectors of the hooks behind a move."""
    if not is_haul(move):
        yield region, shifted(hooks, move[1], move[2])
        return
    kind, hook, part = move[:3]
    height = hooks[hook]
    reaches = [opposite(reach) for reach in reaches_of(hook, puppet, part)]
    for cell, reach in greatests(region, reaches):
        # The hook holds the part at the height of the hook plus this reach, which is never above 0.
        aims = [minus(hold, reach) for hold in holds_against(move, puppet, hooks)]
        for inner, end in hauled(cell, kind, height, aims):
            yield inner, {**hooks, hook: end}


def shifted(hooks, moved, amount):
    """The vectors of the hooks when those of a string have gone up by an integer."""
    return {hook: raised(vector, amount) if hook in moved else vector for hook, vector in hooks.items()}


def hauled(region, kind, height, aims):
    """Cells that cover a region, each with the vector of a hook's height behind a haul.

    A lift and a hold raise the hook to the greatest of the aims, and an ease lowers it there; a hook that is
    beyond it already stays.
    """
    if kind != "ease":
        ends = [height, *aims]
        yield from greatests(region, ends)
        return
    for cell, aim in greatests(region, aims):
        falls = [opposite(height), opposite(aim)]
        for inner, fall in greatests(cell, falls):
            yield inner, opposite(fall)


def reaches_of(hook, puppet, part):
    """Vectors of how far below a hook its strings hold a part."""
    names = puppet.names
    return [raised(length_vector(name, names), distance)
            for name, end, distance in puppet.pulls(part) if end == hook]


def holds_against(move, puppet, hooks):
    """Vectors of the heights of the part beside which a haul measures what its hook holds the part at."""
    if move[0] == "hold":
        return [constant_vector(move[3], puppet.names)]
    others = {hook: hooks[hook] for hook in puppet.hooks if hook != move[1]}
    return tops_of_part(move[2], puppet, others)


def tops_of_part(part, puppet, hooks):
    """Vectors whose greatest is the height of a part, so far as the floor and these hooks hold it."""
    names = puppet.names
    holds = [minus(hooks[end], raised(length_vector(name, names), distance))
             for name, end, distance in puppet.pulls(part) if end in hooks]
    return [constant_vector(0, names), *holds]


def tops_of_level(level, script, moments):
    """Vectors whose greatest is a level of a script, for the vectors of the hooks at all moments."""
    names = script.puppet.names
    if level[0] == "floor":
        return [constant_vector(0, names)]
    if level[0] == "length":
        return [length_vector(level[1], names)]
    hooks = moments[moment_of(level, script)]
    return [hooks[level[1]]] if level[0] == "hook" else tops_of_part(level[1], script.puppet, hooks)


def needed_for(levels, script):
    """For each move of a script whether, if it is a haul, some of the levels depend on it."""
    wanted = []
    needed = []
    for at in reversed(range(len(script.moves))):
        for level in levels:
            if moment_of(level, script) == at + 1:
                wanted.extend(hooks_of(level, script))
        move = script.moves[at]
        needed.append(is_haul(move) and move[1] in wanted)
        if needed[-1]:
            wanted.extend(script.puppet.hooks_to(move[2]))
    return needed[::-1]
