"""A test case that looks at errors, and what several tests draw or reckon by themselves."""

import unittest
from fractions import Fraction
from itertools import combinations

from slackstrings.errors import Contradictory
from slackstrings.facts import Facts
from slackstrings.forms import Form
from slackstrings.puppets import Puppet
from slackstrings.ratios import Ratio
from slackstrings.scripts import Script
from slackstrings.wishes import Wish

WORDS = ("body", "hand", "foot", "aa", "head", "elbowsss")


class ErrorCase(unittest.TestCase):

    def assert_refused(self, error, told, act, *given, **named):
        """act raises just this error, and the one attribute of the error is told."""
        with self.assertRaises(error) as caught:
            act(*given, **named)
        self.assertIs(type(caught.exception), error)
        [found] = vars(caught.exception).values()
        if isinstance(told, int) and not isinstance(told, bool):
            self.assertIs(type(found), int)
            self.assertEqual(found, told)
        else:
            self.assertIs(found, told)

    def assert_refused_alike(self, error, told, act, *given):
        """The same where told is a value of its own, equal to the attribute."""
        with self.assertRaises(error) as caught:
            act(*given)
        self.assertIs(type(caught.exception), error)
        [found] = vars(caught.exception).values()
        self.assertEqual(found, told)


def as_fraction(value):
    """The Fraction of an integer or a Ratio."""
    return Fraction(value.top, value.bottom) if isinstance(value, Ratio) else Fraction(value)


def as_ratio(fraction):
    """The Ratio of a Fraction."""
    return Ratio(fraction.numerator, fraction.denominator)


def ratios(lengths):
    """A dict of Ratios, of a dict of Fractions."""
    return {name: as_ratio(length) for name, length in lengths.items()}


def solved(rows, ends):
    """The one solution of as many equations as there are unknowns; None if there are none or many."""
    table = [[*map(Fraction, row), Fraction(end)] for row, end in zip(rows, ends)]
    size = len(table)
    for at in range(size):
        pivot = next((row for row in table[at:] if row[at] != 0), None)
        if pivot is None:
            return None
        table.remove(pivot)
        table.insert(at, [number / pivot[at] for number in pivot])
        for other in range(size):
            if other != at:
                times = table[other][at]
                table[other] = [x - times * y for x, y in zip(table[other], table[at])]
    return [row[-1] for row in table]


def numbers_of(form, names):
    """The numbers of a form for these names."""
    told = dict(form.terms)
    return [told.get(name, 0) for name in names]


def corners(rows, levels=()):
    """The points, no coordinate below 0, that keep rows and are 0 in levels and in enough of the others.

    Rows and levels are pairs of a constant and numbers.
    """
    size = len((*rows, *levels)[0][1])
    walls = [*rows, *[(0, [int(at == other) for other in range(size)]) for at in range(size)]]
    found = []
    for chosen in combinations(walls, size - len(levels)):
        told = [*levels, *chosen]
        point = solved([numbers for _, numbers in told], [-constant for constant, _ in told])
        if point is not None and point not in found and all(value(wall, point) >= 0 for wall in walls):
            found.append(point)
    return found


def value(row, point):
    """The value of a constant and numbers at a point."""
    return row[0] + sum(number * coordinate for number, coordinate in zip(row[1], point))


def rows_of(facts):
    """The facts as pairs of a constant and numbers."""
    if facts.forms:
        return [(form.constant, numbers_of(form, facts.names)) for form in facts.forms]
    return [(0, [0] * len(facts.names))]


def rays(facts):
    """Directions into which the lengths that keep facts go on without end; all are sums of these."""
    return corners([(0, numbers) for _, numbers in rows_of(facts)], [(-1, [1] * len(facts.names))])


class Lengths:
    """Draws lengths that keep facts: corners, points between them and points far out."""

    def __init__(self, facts):
        self.names = facts.names
        self.corners = corners(rows_of(facts))
        self.rays = rays(facts)

    def drawn(self, random):
        shares = [random.choice((0, 0, 1, 2, 5)) for _ in self.corners]
        shares[random.randrange(len(shares))] += 1
        point = [sum(share * corner[at] for share, corner in zip(shares, self.corners)) / Fraction(sum(shares))
                 for at in range(len(self.names))]
        for ray in self.rays:
            far = random.choice((0, 0, Fraction(1, 3), 7, 60))
            point = [coordinate + far * step for coordinate, step in zip(point, ray)]
        return ratios(dict(zip(self.names, point)))

    def some(self, random, many):
        """All corners, and many others."""
        there = [ratios(dict(zip(self.names, corner))) for corner in self.corners]
        return there + [self.drawn(random) for _ in range(many)]


def drawn_puppet(random, parts, strings, hooks):
    """A puppet with so many parts, strings and hooks at the most."""
    words = tuple(random.sample(WORDS, random.randint(1, parts)))
    pairs = list(combinations(words, 2))
    random.shuffle(pairs)
    ties = tuple((*random.sample(pair, 2), random.randint(0, 9)) for pair in pairs[:random.randint(0, 10)])
    letters = "ABCD"[:random.randint(1, hooks)]
    names = sorted(random.sample("abcdefgz", random.randint(1, strings)))
    return Puppet(words, ties, letters, tuple((name, random.choice(letters), random.choice(words)) for name in names))


def drawn_move(random, puppet, haul):
    """A move of a puppet, a haul with a way or none."""
    if not haul:
        hooks = random.sample(puppet.hooks, random.randint(1, len(puppet.hooks)))
        return "move", "".join(sorted(hooks)), random.randint(-9, 9)
    ways = [(hook, part) for hook in puppet.hooks for part in puppet.parts if puppet.has_way(hook, part)]
    kind = random.choice(("lift", "ease", "hold"))
    return (kind, *random.choice(ways), *([random.randint(-4, 20)] if kind == "hold" else []))


def drawn_script(random, puppet, moves, hauls):
    """A script with so many moves and hauls at the most."""
    kinds = [random.random() < 0.6 for _ in range(random.randint(0, moves))]
    told = []
    for haul in kinds:
        told.append(drawn_move(random, puppet, haul and sum(move[0] != "move" for move in told) < hauls))
    return Script(puppet, {hook: random.randint(0, 25) for hook in puppet.hooks}, tuple(told))


def drawn_form(random, names, low=-3, high=3):
    """A form over some of these names."""
    numbers = [(name, random.randint(low, high)) for name in names]
    return Form(random.randint(-12, 25), tuple(pair for pair in numbers if pair[1] and random.random() < 0.7))


def drawn_facts(random, names):
    """Facts that some lengths keep: boxes, facts that tie lengths to one another, and lengths tied to just one form."""
    while True:
        forms = []
        while random.random() < 0.2:
            form = Form(random.randint(-9, 9), tuple((name, random.choice((-1, 1))) for name in names[:2]))
            forms.extend((form, -form))
        for name in names:
            least = random.randint(0, 15)
            if random.random() < 0.5:
                forms.append(Form(-least, ((name, 1),)))
            if random.random() < 0.5:
                forms.append(Form(least + random.randint(0, 12), ((name, -1),)))
        while random.random() < 0.4:
            forms.append(drawn_form(random, names))
        forms = forms[:8]
        random.shuffle(forms)
        try:
            return Facts(names, tuple(forms))
        except Contradictory:
            pass


def drawn_level(random, script):
    """A level of a script."""
    moment = random.choice([*range(len(script) + 1), "last"])
    return random.choice((("floor",), ("length", random.choice(script.puppet.names)),
                          ("hook", random.choice(script.puppet.hooks), moment),
                          ("part", random.choice(script.puppet.parts), moment),
                          ("part", random.choice(script.puppet.parts), moment)))


def drawn_wish_form(random, script, depth, overs):
    """The form of a wish over a script, so deep and with so many overs at the most."""
    if depth == 0 or random.random() < 0.3:
        surplus = random.choice((random.randint(-12, 12), random.randint(-2, 2), (2 * random.randint(-9, 9) + 1, 2)))
        return "over", drawn_level(random, script), drawn_level(random, script), surplus
    if overs == 1 or random.random() < 0.2:
        return "not", drawn_wish_form(random, script, depth - 1, overs)
    first = random.randint(1, overs - 1)
    return (random.choice(("and", "or", "if")), drawn_wish_form(random, script, depth - 1, first),
            drawn_wish_form(random, script, depth - 1, overs - first))


def drawn_wish(random, script, depth=3, overs=5):
    """A wish over a script."""
    return Wish(drawn_wish_form(random, script, depth, overs))


def level_in(level, run):
    """The height of a level in a run."""
    if level[0] == "floor":
        return Ratio(0)
    if level[0] == "length":
        return run.lengths[level[1]]
    return run.hook(level[2], level[1]) if level[0] == "hook" else run.height(level[2], level[1])
