"""Forms as tuples of integers: the constant, then for each coordinate of a point how often it is taken.

A vector may be shorter than the points are: the coordinates that are left out are not taken.
"""

from slackstrings.forms import Form


def constant_vector(constant, names):
    """The vector of a form without terms."""
    return (constant,) + (0,) * len(names)


def length_vector(name, names):
    """The vector of the length of one of some names."""
    return (0,) + tuple([1 if other == name else 0 for other in names])


def vector_of(form, names):
    """The vector of a Form over some names, or over fewer of them."""
    numbers = dict(form.terms)
    return (form.constant,) + tuple([numbers.get(name, 0) for name in names])


def form_of(vector, names):
    """The Form over some names that a vector tells."""
    return Form(vector[0], tuple([(name, number) for name, number in zip(names, vector[1:]) if number != 0]))


def plus(one, other):
    """The sum of two vectors of the same size."""
    return tuple([first + second for first, second in zip(one, other)])


def minus(one, other):
    """The difference of two vectors of the same size."""
    return tuple([first - second for first, second in zip(one, other)])


def raised(vector, amount):
    """A vector with an integer added to its constant."""
    return (vector[0] + amount,) + vector[1:]


def times(vector, amount):
    """An integer times a vector."""
    return tuple([number * amount for number in vector])


def opposite(vector):
    """The vector of the opposite form."""
    return times(vector, -1)
