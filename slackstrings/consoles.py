"""A console: questions as lines, with lines as answers."""

from slackstrings.always import always, ever, greatest, least
from slackstrings.checks import check_facts
from slackstrings.errors import InvalidLine, InvalidText
from slackstrings.lengths import is_length
from slackstrings.levels import is_level, is_level_over, level_in
from slackstrings.ratios import Ratio
from slackstrings.spares import idle
from slackstrings.wishes import Wish


class Console:
    """Answers lines about a script and facts that go with it."""

    def __init__(self, script, facts):
        check_facts(script, facts)
        self.script = script
        self.facts = facts

    def say(self, line):
        """The answer to a line."""
        answer = answer_to(line, self.script, self.facts) if isinstance(line, str) else None
        if answer is None:
            raise InvalidLine(line)
        return answer


def answer_to(line, script, facts):
    """The answer to a line about a script and facts; None if the line is no question."""
    if line == "idle":
        return " ".join(idle(script, facts)) or "none"
    word, _, rest = line.partition(" ")
    if word in ("greatest", "least"):
        return bound_told(word, rest, script, facts)
    if word in ("always", "ever"):
        return truth_told(word, rest, script, facts)
    return heights_told(rest, script, facts) if word == "heights" else None


def bound_told(word, text, script, facts):
    """The greatest or the least of the level with a text; None if that is no level of the script."""
    level = level_in(text)
    if not is_level(level) or not is_level_over(level, script):
        return None
    found = greatest(script, facts, level) if word == "greatest" else least(script, facts, level)
    return "none" if found is None else str(found)


def truth_told(word, text, script, facts):
    """Whether the wish with a text holds always or ever; None if that is no wish over the script."""
    try:
        wish = Wish.read(text)
    except InvalidText:
        return None
    if not wish.is_over(script):
        return None
    holds = always(script, facts, wish) if word == "always" else ever(script, facts, wish)
    return "yes" if holds else "no"


def heights_told(text, script, facts):
    """The parts and their heights at the last moment, for the lengths that a text tells; None if it tells none."""
    lengths = lengths_told(text.split(" "), facts.names)
    if lengths is None:
        return None
    run = script.run(lengths)
    heights = {part: run.height("last", part) for part in script.puppet.parts}
    return " ".join([f"{part} {height!s}" for part, height in heights.items()])


def lengths_told(words, names):
    """The lengths that words tell, each behind its name; None if these are no lengths for just these names."""
    if words[::2] != list(names) or len(words) != 2 * len(names):
        return None
    try:
        lengths = {name: Ratio.read(text) for name, text in zip(names, words[1::2])}
    except InvalidText:
        return None
    return lengths if all([is_length(length) for length in lengths.values()]) else None
