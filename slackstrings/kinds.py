"""What kind of value something is. Everything may be asked about."""


def is_whole(value):
    """Whether value is an integer."""
    # Python counts True and False among the integers; here they never are.
    return isinstance(value, int) and not isinstance(value, bool)


def is_number(value):
    """Whether value is an integer from 0 on."""
    return is_whole(value) and value >= 0


def is_small_letter(value):
    """Whether value is one letter from a to z."""
    return isinstance(value, str) and len(value) == 1 and "a" <= value <= "z"


def is_capital(value):
    """Whether value is one letter from A to Z."""
    return isinstance(value, str) and len(value) == 1 and "A" <= value <= "Z"


def is_word(value):
    """Whether value may be the name of a part: two to eight small letters."""
    return isinstance(value, str) and 2 <= len(value) <= 8 and all([is_small_letter(sign) for sign in value])


def is_row(value, least, most):
    """Whether value is a tuple with a number of elements from least to most."""
    return isinstance(value, tuple) and least <= len(value) <= most


def is_rising(signs):
    """Whether each sign of a string is above the one before."""
    return all([one < other for one, other in zip(signs, signs[1:])])


def are_small_letters(value, most):
    """Whether value is a string of one to most different small letters in alphabetical order."""
    if not isinstance(value, str) or not 1 <= len(value) <= most:
        return False
    return all([is_small_letter(sign) for sign in value]) and is_rising(value)


def are_capitals(value, most):
    """Whether value is a string of one to most different capital letters in alphabetical order."""
    if not isinstance(value, str) or not 1 <= len(value) <= most:
        return False
    return all([is_capital(sign) for sign in value]) and is_rising(value)


def is_one_of(value, strings):
    """Whether value is one of some strings, which stand in a tuple or are the letters of one string."""
    # A string is also found within a longer one, so the letters are put apart.
    return isinstance(value, str) and value in list(strings)


def has_just(value, names):
    """Whether value is a dict that has just these names as its keys."""
    return isinstance(value, dict) and len(value) == len(names) and all([name in value for name in names])


def moment_at(value, last):
    """The number of a moment of a script whose last moment has the number last; None if value is no moment."""
    if isinstance(value, str):
        return last if value == "last" else None
    return value if is_number(value) and value <= last else None
