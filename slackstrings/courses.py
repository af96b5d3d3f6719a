"""Courses: what a script does to the hooks for all lengths of a region, as vectors over the lengths.

Where heights are greatest ones of several forms, the region is parted into cells. In each of them one form
is the greatest throughout, so that the heights of the hooks are forms.
"""

from slackstrings.holds import others_than, reaches_of, shifted, starting, tops_of_part
from slackstrings.kinds import moment_at
from slackstrings.levels import hooks_of, moment_of
from slackstrings.ratios import as_ratio
from slackstrings.regions import greatests, holds_throughout, kept, kept_all
from slackstrings.scripts import is_haul
from slackstrings.vectors import constant_vector, minus, opposite, raised, times


class Plan:
    """What is asked of a script: levels, for the lengths of some names that lead to sights.

    needed tells for each move whether it is to be done if it is a haul: where it is not, the hook is left
    where it was, which nobody asks.
    """

    def __init__(self, script, names, levels, sights=()):
        last = len(script.moves)
        self.script = script
        self.names = names
        self.sights = [(moment_at(moment, last), part, as_ratio(height)) for moment, part, height in sights]
        self.needed = needed_for([*levels, *[("part", part, at) for at, part, _ in self.sights]], script)


def courses(plan, region):
    """Cells that cover the lengths of a region that lead to all sights, each with the hooks' vectors at all moments."""
    moments = [starting(plan.script, plan.names)]
    yield from courses_behind(moments, plan, region)


def courses_behind(moments, plan, region):
    """The same where some moments have been, with the vectors of the hooks at these; the last one is now."""
    at = len(moments) - 1
    hooks = moments[-1]
    sights = [(part, height) for moment, part, height in plan.sights if moment == at]
    for cell in sighted(sights, plan, region, hooks):
        if at == len(plan.script.moves):
            yield cell, moments
        else:
            for inner, moved in moved_on(at, plan, cell, hooks):
                longer = [*moments, moved]
                yield from courses_behind(longer, plan, inner)


def both_courses(plan, other, region):
    """Cells that cover a region, each with the vectors of the hooks of two scripts at all moments."""
    for cell, moments in courses(plan, region):
        for inner, moments_there in courses(other, cell):
            yield inner, moments, moments_there


def sighted(sights, plan, region, hooks):
    """Cells that cover the lengths of a region that lead to sights, pairs of a part and its height at one moment."""
    if not sights:
        yield region
        return
    (part, height), *others = sights
    tops = tops_of_part(part, plan.script.puppet, hooks, plan.names)
    for cell in reached_by(tops, height, region):
        yield from sighted(others, plan, cell, hooks)


def reached_by(tops, height, region):
    """A list of cells that cover the points of a region at which the greatest of some vectors is just a height."""
    leads = [raised(times(vector, height.bottom), -height.top) for vector in tops]
    below = kept_all(region, [opposite(lead) for lead in leads])
    if below is None:
        return []
    # If one of them is at the height throughout, the others would only tell some of these points again.
    if any([holds_throughout(below, lead) for lead in leads]):
        return [below]
    cells = [kept(below, lead) for lead in leads]
    return [cell for cell in cells if cell is not None]


def moved_on(at, plan, region, hooks):
    """Cells that cover a region, each with the vectors of the hooks behind a move, if that is needed."""
    script, names = plan.script, plan.names
    move = script.moves[at]
    if is_haul(move) and not plan.needed[at]:
        yield region, hooks
    else:
        yield from ends_of(move, script.puppet, names, region, hooks)


def ends_of(move, puppet, names, region, hooks):
    """Cells that cover a region, each with the vectors of the hooks behind a move."""
    if not is_haul(move):
        yield region, shifted(hooks, move[1], move[2])
        return
    kind, hook, part = move[:3]
    height = hooks[hook]
    reaches = [opposite(reach) for reach in reaches_of(hook, puppet, part, names)]
    for cell, reach in greatests(region, reaches):
        # The hook holds the part at the height of the hook plus this reach, which is never above 0.
        aims = [minus(hold, reach) for hold in holds_against(move, puppet, names, hooks)]
        for inner, end in hauled(cell, kind, height, aims):
            yield inner, {**hooks, hook: end}


def hauled(region, kind, height, aims):
    """Cells that cover a region, each with the vector of a hook's height behind a haul.

    A lift and a hold raise the hook to the greatest of the aims, and an ease lowers it there; a hook that is
    beyond it already stays.
    """
    if kind != "ease":
        ends = [height, *aims]
        yield from greatests(region, ends)
        return
    for cell, aim in greatests(region, aims):
        falls = [opposite(height), opposite(aim)]
        for inner, fall in greatests(cell, falls):
            yield inner, opposite(fall)


def holds_against(move, puppet, names, hooks):
    """Vectors of the heights of the part beside which a haul measures what its hook holds the part at."""
    if move[0] == "hold":
        return [constant_vector(move[3], names)]
    return tops_of_part(move[2], puppet, others_than(move[1], hooks), names)


def needed_for(levels, script):
    """For each move of a script whether, if it is a haul, some of the levels depend on it."""
    wanted = []
    needed = []
    for at in reversed(range(len(script.moves))):
        for level in levels:
            if moment_of(level, script) == at + 1:
                wanted.extend(hooks_of(level, script))
        move = script.moves[at]
        needed.append(is_haul(move) and move[1] in wanted)
        if needed[-1]:
            wanted.extend(script.puppet.hooks_to(move[2]))
    return needed[::-1]
