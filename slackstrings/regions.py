"""Regions: the points, no coordinate below 0, that keep some conditions; what holds in them all, exactly.

A region is looked at from one of its corners. As many conditions as there are coordinates are 0 there,
such that each form is an integer plus integer times of these conditions, all that over one scale.
Going from corner to corner changes the view and not the region (this is the simplex method).
"""

from slackstrings.ratios import Ratio
from slackstrings.vectors import minus, opposite


class Region:
    """Points that keep conditions: first that no coordinate is below 0, then others in their order.

    forms has a vector for each condition. rows has for each condition scale times it, seen from the corner:
    its constant, and how often each condition of zeros is taken. zeros has the indexes of the conditions
    that are 0 at the corner. Only the last condition may be broken at the corner, while it is looked into.
    """

    def __init__(self, forms, rows, zeros, scale):
        self.forms = forms
        self.rows = rows
        self.zeros = zeros
        self.scale = scale

    def point(self):
        """The coordinates of the corner, Ratios."""
        return [Ratio(row[0], self.scale) for row in self.rows[:len(self.zeros)]]

    def seen(self, form):
        """scale times a form, seen from the corner."""
        row = [self.scale * form[0]] + [0] * len(self.zeros)
        for number, coordinate in zip(form[1:], self.rows):
            if number != 0:
                row = [one + number * other for one, other in zip(row, coordinate)]
        return row

    def with_last(self, form):
        """The region with one more condition, though it may be broken at the corner."""
        return Region([*self.forms, form], [*self.rows, self.seen(form)], self.zeros, self.scale)

    def without_last(self):
        """The region without its last condition, which is none of zeros."""
        return Region(self.forms[:-1], self.rows[:-1], self.zeros, self.scale)

    def last_height(self):
        """scale times what the last condition is at the corner."""
        return self.rows[-1][0]

    def turned(self, at, column):
        """The region with the condition at among the zeros, in the place of the one that a column stands for."""
        told = self.rows[at]
        size = abs(told[column])
        rows = []
        for row in self.rows:
            part = row[column] if told[column] > 0 else -row[column]
            # Without this case all would still be right, and slow.
            if part == 0 and size == self.scale:
                rows.append(row)
                continue
            # The division leaves no rest: all these numbers are determinants.
            changed = [(one * size - part * other) // self.scale for one, other in zip(row, told)]
            changed[column] = part
            rows.append(changed)
        zeros = list(self.zeros)
        zeros[column - 1] = at
        return Region(self.forms, rows, zeros, size)

    def rising_column(self):
        """The column along which the last condition rises; None if it is as high as it can be."""
        found = None
        for column, number in enumerate(self.rows[-1]):
            # Taking the least index, here and in stopping_row, keeps the turns from going round for ever.
            if column > 0 and number > 0 and (found is None or self.zeros[column - 1] < self.zeros[found - 1]):
                found = column
        return found

    def stopping_row(self, column):
        """The index of the condition, the last one left aside, that is the first to become 0 along a column."""
        found = None
        for at, row in enumerate(self.rows[:-1]):
            if row[column] < 0:
                if found is None or row[0] * self.rows[found][column] > self.rows[found][0] * row[column]:
                    found = at
        return found

    def climbed(self, goal):
        """The region from a corner at which the last condition, times scale, has come to goal or to its top.

        With it comes the column along which the last condition rises without a bound, if it was found that
        nothing stops it (below goal as yet), otherwise None. If goal is None, nothing but the top is enough.
        """
        region = self
        while goal is None or region.last_height() < goal:
            column = region.rising_column()
            if column is None:
                return region, None
            at = region.stopping_row(column)
            if at is None:
                return region, column
            region = region.turned(at, column)
        return region, None

    def settled(self, column):
        """The region from a corner that keeps the last condition, which rises along a column without a bound."""
        return self.turned(len(self.rows) - 1, column) if self.last_height() < 0 else self

    def shares(self):
        """As the last condition is at its top: how often each other one is taken in it, without the signs.

        scale times the last condition is its height less the sum of the others, each taken so often.
        """
        found = [0] * (len(self.rows) - 1)
        for number, zero in zip(self.rows[-1][1:], self.zeros):
            found[zero] = -number
        return found


def orthant(size):
    """The region of all points with so many coordinates, none of them below 0."""
    forms = [(0,) + tuple([1 if other == at else 0 for other in range(size)]) for at in range(size)]
    return Region(forms, [list(form) for form in forms], list(range(size)), 1)


def limited(region, form):
    """The region with one more condition; if no point keeps it, its height stays below 0, at its top."""
    inner, column = region.with_last(form).climbed(0)
    return inner if column is None else inner.settled(column)


def kept(region, form):
    """The part of the region in which a form is not below 0; None if there is none."""
    inner = limited(region, form)
    return None if inner.last_height() < 0 else inner


def kept_all(region, forms):
    """The part of the region in which none of some forms is below 0; None if there is none."""
    part = region
    for form in forms:
        part = None if part is None else kept(part, form)
    return part


def holds_throughout(region, form):
    """Whether a form is below 0 nowhere in a region."""
    row = region.seen(form)
    # Most forms show at the corner what they are.
    if min(row) >= 0 or row[0] < 0:
        return row[0] >= 0
    below, column = region.with_last(opposite(form)).climbed(1)
    return column is None and below.last_height() <= 0


def broad(region, form):
    """The part of the region in which a form is not below 0: the region itself, if that is all of it.

    None if the part is empty or has less breadth than the region: where a region is put together of closed
    parts, those of its own breadth cover it without the others.
    """
    if holds_throughout(region, form):
        return region
    above, column = region.with_last(form).climbed(1)
    if column is not None:
        return above.settled(column)
    return above if above.last_height() > 0 else None


def topped(region, form):
    """The region from a corner at which a form, as its last condition, is as high as it can be; None if no bound."""
    top, column = region.with_last(form).climbed(None)
    return top if column is None else None


def higher(region, other):
    """The one of two regions whose last condition is higher at the corner; the first one may be None."""
    if region is None or other.last_height() * region.scale > region.last_height() * other.scale:
        return other
    return region


def greatest_in(region, form):
    """The greatest value of a form in a region, a Ratio; None if there is no bound."""
    top = topped(region, form)
    return None if top is None else Ratio(top.last_height(), top.scale)


def greatests(region, forms):
    """Parts that cover the region, each with the one of some forms that is the greatest of all throughout it."""
    rivals = from_the_highest(region, forms)
    for form in rivals:
        part = part_under(region, form, rivals)
        if part is not None:
            yield part, form
            # If nothing was cut off, this part is all.
            if len(part.rows) == len(region.rows):
                return


def part_under(region, form, rivals):
    """The part of the region in which a form is not below its rivals; None if it has less breadth."""
    part = region
    for rival in rivals:
        part = broad(part, minus(form, rival))
        if part is None:
            return None
    return part


def from_the_highest(region, forms):
    """The forms, each once, ahead of the others one that is the highest at the corner."""
    heights = [region.seen(form)[0] for form in forms]
    first = forms[heights.index(max(heights))]
    found = [first]
    for form in forms:
        if form not in found:
            found.append(form)
    return found
