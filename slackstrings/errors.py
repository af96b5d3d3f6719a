"""The errors that this program raises: three bases, and one class for each kind of failure."""


class ShapeError(ValueError):
    """A value is not of the shape that is asked for."""


class QuestionError(LookupError):
    """A question has no answer."""


class SizeError(ArithmeticError):
    """A limit is passed."""


class InvalidNumber(ShapeError):
    """A value is no number, integer or fraction that may stand here."""

    def __init__(self, value):
        self.value = value


class InvalidText(ShapeError):
    """A value is not the text of a ratio or a wish."""

    def __init__(self, value):
        self.value = value


class InvalidForm(ShapeError):
    """A value is no form, or none over the names that there are."""

    def __init__(self, value):
        self.value = value


class InvalidName(ShapeError):
    """A value is no string of names in alphabetical order."""

    def __init__(self, value):
        self.value = value


class InvalidFacts(ShapeError):
    """Forms are no facts over the names."""

    def __init__(self, index):
        self.index = index


class InvalidParts(ShapeError):
    """Parts are not those of a puppet."""

    def __init__(self, index):
        self.index = index


class InvalidTies(ShapeError):
    """Ties are not those of a puppet."""

    def __init__(self, index):
        self.index = index


class InvalidHooks(ShapeError):
    """A value is no string of hooks."""

    def __init__(self, value):
        self.value = value


class InvalidStrings(ShapeError):
    """Strings are not those of a puppet."""

    def __init__(self, index):
        self.index = index


class InvalidHeights(ShapeError):
    """A value does not give each hook a height."""

    def __init__(self, value):
        self.value = value


class InvalidLengths(ShapeError):
    """A value does not give each name a length."""

    def __init__(self, value):
        self.value = value


class InvalidMoves(ShapeError):
    """Moves are not those of a script."""

    def __init__(self, index):
        self.index = index


class InvalidMoment(ShapeError):
    """A value is no moment of the script."""

    def __init__(self, value):
        self.value = value


class InvalidLevel(ShapeError):
    """A value is no level of the script."""

    def __init__(self, value):
        self.value = value


class InvalidWish(ShapeError):
    """A value is no form of a wish, or none over the script."""

    def __init__(self, value):
        self.value = value


class InvalidSights(ShapeError):
    """Sights are not those of the script."""

    def __init__(self, index):
        self.index = index


class InvalidGuards(ShapeError):
    """Wishes are no guards of a stage."""

    def __init__(self, index):
        self.index = index


class InvalidLine(ShapeError):
    """A value is no line of the console."""

    def __init__(self, value):
        self.value = value


class NotFacts(ShapeError):
    """A value is no Facts."""

    def __init__(self, value):
        self.value = value


class NotAPuppet(ShapeError):
    """A value is no Puppet."""

    def __init__(self, value):
        self.value = value


class NotAScript(ShapeError):
    """A value is no Script."""

    def __init__(self, value):
        self.value = value


class NotARun(ShapeError):
    """A value is no Run."""

    def __init__(self, value):
        self.value = value


class NotAWish(ShapeError):
    """A value is no Wish."""

    def __init__(self, value):
        self.value = value


class UnknownPart(QuestionError):
    """The puppet has no such part."""

    def __init__(self, value):
        self.value = value


class UnknownHook(QuestionError):
    """The puppet has no such hook."""

    def __init__(self, value):
        self.value = value


class UnknownName(QuestionError):
    """The puppet has no strings of these names."""

    def __init__(self, value):
        self.value = value


class NoWay(QuestionError):
    """The hook of a haul has no way to the part."""

    def __init__(self, index):
        self.index = index


class OtherNames(QuestionError):
    """The names are not those of the puppet's strings."""

    def __init__(self, given):
        self.given = given


class OtherParts(QuestionError):
    """The parts are not those of the other puppet."""

    def __init__(self, given):
        self.given = given


class Contradictory(QuestionError):
    """No lengths keep the facts, as the weights show."""

    def __init__(self, weights):
        self.weights = weights


class Never(QuestionError):
    """The wish does not always hold, or no lengths fit."""


class Busy(QuestionError):
    """The stage is doing several moves."""


class NothingToUndo(QuestionError):
    """No move of the stage is done."""


class Refused(QuestionError):
    """A guard does not hold for the lengths that are shown."""

    def __init__(self, move, shown):
        self.move = move
        self.shown = shown


class TooMany(SizeError):
    """There are more than the limit allows."""

    def __init__(self, limit):
        self.limit = limit
