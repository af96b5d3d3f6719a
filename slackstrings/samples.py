"""Two small puppets for examples."""

from slackstrings.puppets import Puppet


def stick_man():
    """A body with a hand and a foot, each on a hook of its own."""
    ties = (("body", "hand", 4), ("body", "foot", 6))
    strings = (("a", "B", "body"), ("b", "H", "hand"), ("c", "F", "foot"))
    return Puppet(("body", "hand", "foot"), ties, "BFH", strings)


def two_lines():
    """A load on two lines from two hooks."""
    return Puppet(("load",), (), "AB", (("a", "A", "load"), ("b", "B", "load")))
