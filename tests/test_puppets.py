"""Tests of slackstrings.puppets and slackstrings.samples."""

from fractions import Fraction
from itertools import permutations
from random import Random

from slackstrings.errors import InvalidHeights, InvalidHooks, InvalidLengths, InvalidParts, InvalidStrings
from slackstrings.errors import InvalidTies, UnknownHook, UnknownName, UnknownPart
from slackstrings.puppets import Puppet
from slackstrings.ratios import Ratio
from slackstrings.samples import stick_man, two_lines
from tests.cases import ErrorCase, as_fraction, as_ratio, drawn_puppet
from tests.values import LONG, NINES, Agreeing, Hostile, others, strange

PARTS = ("body", "hand", "foot", "tail")
TIES = (("body", "hand", 4), ("foot", "body", 6), ("hand", "foot", 0))
STRINGS = (("a", "B", "body"), ("c", "F", "foot"), ("x", "B", "tail"))


def made(parts=PARTS, ties=TIES, hooks="BF", strings=STRINGS):
    return Puppet(parts, ties, hooks, strings)


def replaced(row, at, value):
    """A tuple with another element at an index."""
    return (*row[:at], value, *row[at + 1:])


def reckoned_distance(puppet, part, other):
    """The least sum of reaches over all rows of parts that lead from one to another."""
    reach = {frozenset((one, two)): number for one, two, number in puppet.ties}
    between = [each for each in puppet.parts if each not in (part, other)]
    found = [0] if part == other else []
    for many in range(len(between) + 1):
        for chosen in permutations(between, many):
            row = (part, *chosen, other)
            ways = [reach.get(frozenset(pair)) for pair in zip(row, row[1:])]
            if None not in ways:
                found.append(sum(ways))
    return min(found, default=None)


def pulled_up(puppet, hooks, lengths):
    """The heights of the parts, pulled up from the floor until strings and cords are long enough."""
    heights = {part: Fraction(0) for part in puppet.parts}
    while True:
        before = dict(heights)
        for name, hook, part in puppet.strings:
            heights[part] = max(heights[part], as_fraction(hooks[hook]) - as_fraction(lengths[name]))
        for one, other, reach in puppet.ties:
            heights[one] = max(heights[one], heights[other] - reach)
            heights[other] = max(heights[other], heights[one] - reach)
        if heights == before:
            return heights


def drawn_fraction(random, low, high):
    if random.random() < 0.5:
        return random.randint(low, high)
    return Ratio(random.randint(2 * low, 2 * high), 2)


class PuppetCase(ErrorCase):

    def assert_heights(self, puppet, hooks, lengths):
        expected = pulled_up(puppet, hooks, lengths)
        found = puppet.heights(hooks, lengths)
        self.assertIs(type(found), dict)
        self.assertEqual(list(found), list(puppet.parts))
        self.assertTrue(all(type(height) is Ratio for height in found.values()))
        self.assertEqual({part: as_fraction(height) for part, height in found.items()}, expected)
        taut = [name for name, hook, part in puppet.strings
                if as_fraction(hooks[hook]) - as_fraction(lengths[name]) == expected[part]]
        self.assertEqual(puppet.taut(hooks, lengths), "".join(taut))


class MakingTest(PuppetCase):

    def test_attributes(self):
        puppet = made()
        for found, given in [(puppet.parts, PARTS), (puppet.ties, TIES), (puppet.strings, STRINGS)]:
            self.assertIs(found, given)
        self.assertEqual([puppet.hooks, puppet.names], ["BF", "acx"])
        again = Puppet(strings=STRINGS, hooks="BF", ties=TIES, parts=PARTS)
        self.assertEqual(again, puppet)

    def test_least_and_most(self):
        small = Puppet(("ab",), (), "Z", (("q", "Z", "ab"),))
        self.assertEqual([small.names, small.distance("ab", "ab")], ["q", 0])
        words = ("aa", "bbbbbbbb", "cc", "dd", "ee", "zz")
        pairs = [(one, other) for at, one in enumerate(words) for other in words[at + 1:]][:10]
        ties = tuple((*pair, 10 ** 6) for pair in pairs)
        big = Puppet(words, ties, "ACDZ", tuple((name, "Z", "zz") for name in "abcxyz"))
        self.assertEqual(big.distance("aa", "bbbbbbbb"), 10 ** 6)
        self.assertTrue(big)

    def test_equality(self):
        puppet = made()
        self.assertIs(puppet == made(), True)
        self.assertIs(puppet != made(), False)
        turned = (("hand", "body", 4), *TIES[1:])
        different = [made(parts=PARTS[::-1]), made(ties=TIES[::-1]), made(ties=turned), made(ties=()), made(hooks="BFZ"),
                     made(strings=STRINGS[:2]), stick_man(), *strange(), (PARTS, TIES, "BF", STRINGS)]
        for other in different:
            self.assertIs(puppet == other, False)
            self.assertIs(puppet != other, True)

    def test_parts(self):
        for value in [list(PARTS), "body", (), ("aa", "bb", "cc", "dd", "ee", "ff", "gg"), (None,) * 7,
                      *[value for value in others() if type(value) is not tuple]]:
            self.assert_refused(InvalidParts, None, made, parts=value)
        wrong = ["a", "", "ninechars", "Body", "bo dy", "body ", "b1", "b\u00f6dy", "bo\n", "bo-dy", ["body"],
                 ("body",), b"body", *strange()]
        for at in range(4):
            for value in [value for value in wrong if type(value) is not str or value != "seven"]:
                self.assert_refused(InvalidParts, at, made, parts=replaced(PARTS, at, value))
                self.assert_refused(InvalidParts, at, made, parts=(*PARTS[:at], value, None))
        self.assert_refused(InvalidParts, 2, made, parts=("body", "hand", "body", "hand"))
        self.assert_refused(InvalidParts, 1, made, parts=("hand", "hand", "body"))

    def test_ties(self):
        for value in [list(TIES), "body", TIES[0] * 4, (None,) * 11,
                      *[value for value in others() if type(value) is not tuple]]:
            self.assert_refused(InvalidTies, None, made, ties=value)
        for at in range(3):
            for value in [*strange(), list(TIES[at]), TIES[at][:2], (*TIES[at], 1)]:
                self.assert_refused(InvalidTies, at, made, ties=replaced(TIES, at, value))
            for place in range(2):
                for value in ["nobody", "", "bod", "bodyhand", "A", *strange()]:
                    tie = replaced(TIES[at], place, value)
                    self.assert_refused(InvalidTies, at, made, ties=replaced(TIES, at, tie))
                same = replaced(TIES[at], place, TIES[at][1 - place])
                self.assert_refused(InvalidTies, at, made, ties=replaced(TIES, at, same))
            for reach in [-1, 10 ** 6 + 1, LONG, -LONG, Ratio(4), "4", *others()]:
                tie = replaced(TIES[at], 2, reach)
                self.assert_refused(InvalidTies, at, made, ties=replaced(TIES, at, tie))
        self.assert_refused(InvalidTies, 3, made, ties=(*TIES, ("body", "hand", 4)))
        self.assert_refused(InvalidTies, 3, made, ties=(*TIES, ("hand", "body", 9), None))

    def test_hooks(self):
        for value in ["", "FB", "BB", "BBF", "ABCDE", "b", "Bf", "B F", "1", "\u00c4", "B\n", "@", "[", ["B", "F"],
                      ("B", "F"), b"BF", *others()]:
            self.assert_refused(InvalidHooks, value, made, hooks=value)

    def test_strings(self):
        for value in [list(STRINGS), "a", (), tuple((name, "B", "body") for name in "abcdefg"), (None,) * 7,
                      *[value for value in others() if type(value) is not tuple]]:
            self.assert_refused(InvalidStrings, None, made, strings=value)
        for at in range(3):
            for value in [*strange(), list(STRINGS[at]), STRINGS[at][:2], (*STRINGS[at], 1), "aBbody"]:
                self.assert_refused(InvalidStrings, at, made, strings=replaced(STRINGS, at, value))
            for place in range(3):
                for value in ["", "ab", "Z", "BF", "nobody", "A", "1", "\u00e9", *strange()]:
                    string = replaced(STRINGS[at], place, value)
                    self.assert_refused(InvalidStrings, at, made, strings=replaced(STRINGS, at, string))
        self.assert_refused(InvalidStrings, 1, made, strings=(STRINGS[1], STRINGS[0], STRINGS[2]))
        self.assert_refused(InvalidStrings, 1, made, strings=(STRINGS[0], STRINGS[0]))
        self.assert_refused(InvalidStrings, 2, made, strings=(STRINGS[0], STRINGS[2], STRINGS[1]))

    def test_order_of_errors(self):
        wrong = {"parts": (None,), "ties": (None,), "hooks": "b", "strings": (None,)}
        errors = [("parts", InvalidParts, 0), ("ties", InvalidTies, 0), ("hooks", InvalidHooks, "b"),
                  ("strings", InvalidStrings, 0)]
        for at, (name, error, told) in enumerate(errors):
            self.assert_refused(error, told, made, **{each: wrong[each] for each, _, _ in errors[at:]})
        # The parts that ties and strings lead to are those that were passed.
        self.assert_refused(InvalidTies, 0, made, parts=("hand", "foot"), hooks="")
        self.assert_refused(InvalidStrings, 1, made, hooks="B")


class DistanceTest(PuppetCase):

    def test_told_distances(self):
        puppet = made(ties=(("body", "hand", 4), ("foot", "body", 6), ("hand", "foot", 11)))
        rows = [("body", "hand", 4), ("body", "foot", 6), ("hand", "foot", 10), ("tail", "tail", 0), ("body", "body", 0),
                ("tail", "body", None), ("foot", "tail", None)]
        for part, other, distance in rows:
            self.assertEqual(puppet.distance(part, other), distance)
            self.assertEqual(puppet.distance(other=part, part=other), distance)

    def test_drawn_distances(self):
        random = Random(1)
        unreached = 0
        for _ in range(60):
            puppet = drawn_puppet(random, 6, 4, 4)
            for part in puppet.parts:
                for other in puppet.parts:
                    expected = reckoned_distance(puppet, part, other)
                    self.assertEqual(puppet.distance(part, other), expected)
                    unreached += expected is None
        self.assertGreater(unreached, 20)

    def test_unknown_parts(self):
        puppet = made()
        for value in ["nobody", "", "bod", "Body", "body hand", *strange()]:
            self.assert_refused(UnknownPart, value, puppet.distance, value, "body")
            self.assert_refused(UnknownPart, value, puppet.distance, "body", value)
            self.assert_refused(UnknownPart, value, puppet.distance, value, None)
            self.assert_refused(UnknownPart, value, puppet.distance, other=7, part=value)

    def test_ways(self):
        random = Random(2)
        seen = [0, 0]
        for _ in range(60):
            puppet = drawn_puppet(random, 6, 4, 4)
            for hook in puppet.hooks:
                for part in puppet.parts:
                    expected = any(end == hook and reckoned_distance(puppet, there, part) is not None
                                   for _, end, there in puppet.strings)
                    self.assertIs(puppet.has_way(hook, part), expected)
                    self.assertIs(puppet.has_way(part=part, hook=hook), expected)
                    seen[expected] += 1
        self.assertGreater(min(seen), 50)

    def test_ways_of_unknown_hooks_and_parts(self):
        puppet = made()
        for value in ["Z", "", "BF", "b", "nobody", *strange()]:
            self.assert_refused(UnknownHook, value, puppet.has_way, value, "body")
            self.assert_refused(UnknownHook, value, puppet.has_way, value, value)
            self.assert_refused(UnknownPart, value, puppet.has_way, "B", value)
            self.assert_refused(UnknownPart, value, puppet.has_way, part=value, hook="F")


class HeightsTest(PuppetCase):

    def test_drawn_heights(self):
        random = Random(3)
        for _ in range(400):
            puppet = drawn_puppet(random, 6, 6, 4)
            hooks = {hook: drawn_fraction(random, -5, 25) for hook in puppet.hooks}
            lengths = {name: drawn_fraction(random, 0, 20) for name in puppet.names}
            self.assert_heights(puppet, hooks, lengths)

    def test_long_numbers(self):
        random = Random(4)
        for _ in range(30):
            puppet = drawn_puppet(random, 4, 4, 3)
            hooks = {hook: random.choice((LONG, NINES, Ratio(NINES, 7), -LONG)) for hook in puppet.hooks}
            lengths = {name: random.choice((0, LONG, Ratio(LONG, NINES), Ratio(1, 3))) for name in puppet.names}
            self.assert_heights(puppet, hooks, lengths)

    def test_strings_that_just_hold(self):
        puppet = two_lines()
        rows = [((10, 10), (3, 3), 7, "ab"), ((10, 12), (3, 5), 7, "ab"), ((10, 10), (10, 11), 0, "a"),
                ((0, -1), (0, 0), 0, "a"), ((5, 9), (2, 4), 5, "b"), ((5, 5), (7, 9), 0, ""),
                ((Ratio(7, 2), 4), (0, Ratio(1, 2)), Ratio(7, 2), "ab")]
        for (first, second), (a, b), height, taut in rows:
            hooks, lengths = {"A": first, "B": second}, {"a": a, "b": b}
            self.assertTrue(puppet.heights(hooks, lengths)["load"] == height)
            self.assertEqual(puppet.taut(hooks, lengths), taut)
            self.assertEqual(puppet.taut(lengths=lengths, hooks=hooks), taut)
            self.assert_heights(puppet, hooks, lengths)

    def test_strings_that_hold_through_ties(self):
        puppet = stick_man()
        hooks, lengths = {"B": 20, "F": 20, "H": 20}, {"a": 16, "b": 10, "c": 14}
        self.assertEqual([str(height) for height in puppet.heights(hooks, lengths).values()], ["6", "10", "6"])
        self.assertEqual(puppet.taut(hooks, lengths), "bc")
        self.assertEqual(puppet.taut(hooks, {"a": 14, "b": 10, "c": 20}), "abc")
        self.assertEqual(puppet.taut(hooks, {"a": 14, "b": 10, "c": 21}), "ab")

    def test_new_dicts(self):
        puppet = stick_man()
        hooks, lengths = {"H": 20, "B": 20, "F": 20}, {"c": 30, "b": 10, "a": 12}
        found = puppet.heights(hooks=hooks, lengths=lengths)
        found.clear()
        self.assertEqual([str(height) for height in puppet.heights(hooks, lengths).values()], ["8", "10", "2"])
        self.assertEqual([hooks, lengths], [{"H": 20, "B": 20, "F": 20}, {"c": 30, "b": 10, "a": 12}])

    def test_hooks_that_are_none(self):
        puppet = two_lines()
        right, lengths = {"A": 1, "B": Ratio(-7, 2)}, {"a": 1, "b": 2}
        spoilt = [{}, {"A": 1}, {"A": 1, "C": 2}, {**right, "C": 1}, {**right, "a": 1}, {**right, 1: 1},
                  {**right, "A": True}, {**right, "B": None}, {**right, "B": "1"}, {**right, "A": Hostile()},
                  {**right, "B": Agreeing()}, {"AB": 1}, [("A", 1), ("B", 2)], "AB", *strange()]
        for hooks in spoilt:
            for act in (puppet.heights, puppet.taut):
                self.assert_refused(InvalidHeights, hooks, act, hooks, lengths)
                self.assert_refused(InvalidHeights, hooks, act, hooks, None)
                self.assert_refused(InvalidHeights, hooks, act, lengths={}, hooks=hooks)
        self.assert_heights(puppet, right, lengths)

    def test_lengths_that_are_none(self):
        puppet = two_lines()
        hooks, right = {"A": 10, "B": 10}, {"a": 1, "b": Ratio(1, 2)}
        spoilt = [{}, {"a": 1}, {"a": 1, "c": 2}, {**right, "c": 1}, {**right, "A": 1}, {**right, 1: 1},
                  {**right, "a": -1}, {**right, "b": Ratio(-1, 2)}, {**right, "a": True}, {**right, "b": None},
                  {**right, "b": "1"}, {**right, "a": Hostile()}, {**right, "b": Agreeing()}, {"ab": 1},
                  [("a", 1), ("b", 2)], "ab", *strange()]
        for lengths in spoilt:
            for act in (puppet.heights, puppet.taut):
                self.assert_refused(InvalidLengths, lengths, act, hooks, lengths)
                self.assert_refused(InvalidLengths, lengths, act, lengths=lengths, hooks=hooks)


class WithoutTest(PuppetCase):

    def test_some_strings(self):
        random = Random(5)
        for _ in range(100):
            puppet = drawn_puppet(random, 5, 6, 4)
            names = random.sample(puppet.names, random.randint(0, len(puppet.names) - 1))
            left = puppet.without("".join(names))
            strings = tuple(string for string in puppet.strings if string[0] not in names)
            self.assertEqual(left, Puppet(puppet.parts, puppet.ties, puppet.hooks, strings))
            self.assertEqual(left.names, "".join(name for name in puppet.names if name not in names))

    def test_told_strings(self):
        puppet = stick_man()
        self.assertEqual(puppet.without("ca").strings, (("b", "H", "hand"),))
        self.assertEqual(puppet.without(names="b").names, "ac")
        self.assertEqual(puppet.without(""), puppet)
        self.assertEqual(puppet.without("b").hooks, "BFH")
        self.assertIs(puppet.without("b").has_way("H", "hand"), False)
        self.assertEqual(puppet.names, "abc")

    def test_none_left(self):
        for names in permutations("abc"):
            self.assert_refused(InvalidStrings, None, stick_man().without, "".join(names))
        self.assert_refused(InvalidStrings, None, two_lines().without, names="ba")

    def test_strange_strings(self):
        puppet = stick_man()
        for names in ["d", "ad", "aa", "aba", "abca", "abcd", "A", "a b", " ", "a,b", "B", ["a"], ("a", "b"), {"a": 1},
                      b"a", *[value for value in strange() if type(value) is not str or value]]:
            self.assert_refused(UnknownName, names, puppet.without, names)
            self.assert_refused(UnknownName, names, puppet.without, names=names)


class SamplesTest(PuppetCase):

    def test_samples(self):
        strings = (("a", "B", "body"), ("b", "H", "hand"), ("c", "F", "foot"))
        man = Puppet(("body", "hand", "foot"), (("body", "hand", 4), ("body", "foot", 6)), "BFH", strings)
        self.assertEqual(stick_man(), man)
        lines = Puppet(("load",), (), "AB", (("a", "A", "load"), ("b", "B", "load")))
        self.assertEqual(two_lines(), lines)

    def test_heights_with_fractions(self):
        lengths = {"a": as_ratio(Fraction(5, 3)), "b": Ratio(1, 7)}
        self.assertEqual(str(two_lines().heights({"A": 3, "B": Ratio(1, 2)}, lengths)["load"]), "4/3")
