"""What kind of value something is."""


def is_whole(value):
    """Whether value is an integer."""
    # Python counts True and False among the integers; here they never are.
    return isinstance(value, int) and not isinstance(value, bool)
