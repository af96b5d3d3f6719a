"""Levels: heights of hooks and parts at moments, lengths, and the floor."""

from slackstrings.kinds import is_capital, is_one_of, is_row, is_small_letter, is_word, moment_at
from slackstrings.limits import MOST_MOVES


def is_level(value):
    """Whether value is a level, of whatever script."""
    if not is_row(value, 1, 3) or not isinstance(value[0], str):
        return False
    if len(value) == 1:
        return value[0] == "floor"
    if len(value) == 2:
        return value[0] == "length" and is_small_letter(value[1])
    if moment_at(value[2], MOST_MOVES) is None:
        return False
    return value[0] == "hook" and is_capital(value[1]) or value[0] == "part" and is_word(value[1])


def is_level_over(level, script):
    """Whether a level is of hooks, parts, strings and moments that a script has."""
    if level[0] == "floor":
        return True
    if level[0] == "length":
        return is_one_of(level[1], script.puppet.names)
    if moment_at(level[2], len(script.moves)) is None:
        return False
    return is_one_of(level[1], script.puppet.hooks if level[0] == "hook" else script.puppet.parts)


def hooks_of(level, script):
    """The hooks on whose heights a level that has a moment depends."""
    return [level[1]] if level[0] == "hook" else script.puppet.hooks_to(level[1])


def moment_of(level, script):
    """The number of the moment of a level of a script; None for the floor and a length, which have none."""
    return moment_at(level[2], len(script.moves)) if len(level) == 3 else None


def level_text(level):
    """The text of a level."""
    if level[0] == "floor":
        return "floor"
    return level[1] if level[0] == "length" else f"{level[1]}@{level[2]}"


def level_in(text):
    """What may be the level of a text: no other level has it."""
    name, at, moment = text.partition("@")
    if not at:
        return ("floor",) if text == "floor" else ("length", text)
    return "hook" if is_capital(name) else "part", name, moment_in(moment)


def moment_in(text):
    """The moment of a text."""
    return int(text) if len(text) == 1 and "0" <= text <= "9" else text
