"""What holds for all lengths that keep facts and lead to heights that were seen."""

from slackstrings.bounds import greatest_of_level, least_of_level
from slackstrings.checks import check_facts, check_level, check_wish
from slackstrings.errors import InvalidSights, Never
from slackstrings.kinds import is_one_of, is_row, moment_at
from slackstrings.lengths import is_length
from slackstrings.limits import MOST_SIGHTS
from slackstrings.searches import found_for_sights, found_for_wish


class Seen:
    """A script, facts and sights: lengths fit if they keep the facts and lead to all sights."""

    def __init__(self, script, facts, sights=()):
        check_facts(script, facts)
        check_sights(sights, script)
        self.script = script
        self.facts = facts
        self.sights = sights

    def with_sight(self, moment, part, height):
        """The same with one more sight behind the others."""
        return Seen(self.script, self.facts, (*self.sights, (moment, part, height)))

    def fits(self):
        """Whether any lengths fit."""
        return found_for_sights(self.script, self.facts, self.sights) is not None

    def some(self):
        """A new dict of some lengths that fit."""
        found = found_for_sights(self.script, self.facts, self.sights)
        if found is None:
            raise Never()
        return found

    def greatest(self, level):
        """The greatest value of a level for lengths that fit, a Ratio; None if there is no bound."""
        check_level(level, self.script)
        self.check_fits()
        return greatest_of_level(self.script, self.facts, level, self.sights)

    def least(self, level):
        """The least value of a level for lengths that fit, a Ratio: there always is a bound."""
        check_level(level, self.script)
        self.check_fits()
        return least_of_level(self.script, self.facts, level, self.sights)

    def sure(self, level):
        """The one height that a level has for all lengths that fit, a Ratio; None if there is more than one."""
        high = self.greatest(level)
        return high if high is not None and high == self.least(level) else None

    def always(self, wish):
        """Whether a wish holds for all lengths that fit."""
        check_wish(wish, self.script)
        self.check_fits()
        return found_for_wish(self.script, self.facts, wish.form, False, self.sights) is None

    def ever(self, wish):
        """Whether a wish holds for some lengths that fit."""
        check_wish(wish, self.script)
        self.check_fits()
        return found_for_wish(self.script, self.facts, wish.form, True, self.sights) is not None

    def check_fits(self):
        """Raises Never if no lengths fit."""
        if not self.fits():
            raise Never()


def check_sights(sights, script):
    """Raises InvalidSights for what are no sights of a script."""
    if not is_row(sights, 0, MOST_SIGHTS):
        raise InvalidSights(None)
    for index, sight in enumerate(sights):
        if not is_sight(sight, script):
            raise InvalidSights(index)


def is_sight(value, script):
    """Whether value is a triple of a moment and a part of a script and a fraction from 0 on."""
    if not is_row(value, 3, 3) or moment_at(value[0], len(script.moves)) is None:
        return False
    return is_one_of(value[1], script.puppet.parts) and is_length(value[2])
