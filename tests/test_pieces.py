"""Tests of slackstrings.pieces."""

from random import Random

from slackstrings.always import greatest, least
from slackstrings.errors import InvalidLengths, InvalidMoment, NotAScript, NotFacts, OtherNames, UnknownHook, UnknownPart
from slackstrings.facts import Facts
from slackstrings.forms import Form
from slackstrings.pieces import Piece, pieces
from slackstrings.ratios import Ratio
from slackstrings.samples import stick_man, two_lines
from slackstrings.scripts import Script
from tests.cases import ErrorCase, Lengths, drawn_facts, drawn_puppet, drawn_script
from tests.values import LONG, Hostile, strange

LINES = Script(two_lines(), {"A": 10, "B": 10}, (("lift", "A", "load"),))
LINE_FACTS = Facts("ab", (Form(4, (("a", -1),)), Form(-5, (("b", 1),))))


class PiecesCase(ErrorCase):

    def assert_tells(self, piece, run):
        """The forms of a piece tell the heights of a run, the lengths of which lie in it."""
        puppet, lengths = run.script.puppet, run.lengths
        for moment in [*range(len(run)), "last"]:
            for hook in puppet.hooks:
                self.assertEqual(piece.hook(moment, hook).at(lengths), run.hook(moment, hook))
            for part in puppet.parts:
                self.assertEqual(piece.height(moment, part).at(lengths), run.height(moment, part))

    def lies_in(self, lengths, facts, piece):
        """Whether lengths lie in a piece, by its conditions."""
        return facts.keeps(lengths) and all(form.at(lengths).top >= 0 for form in piece.conditions)


class DrawnTest(PiecesCase):

    def test_drawn_scripts(self):
        random = Random(1)
        several = 0
        for turn in range(80):
            puppet = drawn_puppet(random, 4, 2 + turn % 3, 3)
            script = drawn_script(random, puppet, 5, 3)
            facts = drawn_facts(random, puppet.names)
            found = pieces(script, facts)
            self.assertIs(type(found), list)
            several += len(found) > 1
            for piece in random.sample(found, min(len(found), 30)):
                self.assert_piece(piece, script, facts)
            for lengths in Lengths(facts).some(random, 10):
                self.assert_covered(found, script, lengths)
        self.assertGreater(several, 30)

    def assert_piece(self, piece, script, facts):
        """The piece has some lengths, and the forms tell their heights."""
        self.assertIs(type(piece), Piece)
        self.assertIs(type(piece.conditions), tuple)
        self.assertTrue(all(type(form) is Form for form in piece.conditions))
        lengths = piece.some()
        self.assertIs(type(lengths), dict)
        self.assertTrue(all(type(length) is Ratio for length in lengths.values()))
        self.assertTrue(self.lies_in(lengths, facts, piece))
        self.assertIs(piece.has(lengths), True)
        self.assert_tells(piece, script.run(lengths))

    def assert_covered(self, found, script, lengths):
        """The lengths lie in some piece, and in all that they lie in the forms tell the heights."""
        run = script.run(lengths)
        there = [piece for piece in found if piece.has(lengths)]
        self.assertGreater(len(there), 0)
        for piece in there[:3]:
            self.assert_tells(piece, run)

    def test_edges_of_pieces(self):
        random = Random(2)
        for _ in range(30):
            script = drawn_script(random, drawn_puppet(random, 3, 2, 2), 4, 2)
            facts = drawn_facts(random, script.puppet.names)
            for piece in pieces(script, facts)[:10]:
                inside = Facts(facts.names, (*facts.forms[:4], *piece.conditions[:4]))
                for lengths in Lengths(inside).some(random, 3):
                    self.assertIs(piece.has(lengths), self.lies_in(lengths, facts, piece))
                    if piece.has(lengths):
                        self.assert_tells(piece, script.run(lengths))

    def test_bounds_by_pieces(self):
        random = Random(3)
        for _ in range(60):
            script = drawn_script(random, drawn_puppet(random, 3, 3, 3), 4, 3)
            facts = drawn_facts(random, script.puppet.names)
            moment, part = random.randint(0, len(script)), random.choice(script.puppet.parts)
            highs, lows = [], []
            for piece in pieces(script, facts):
                # Facts take eight forms; the others follow from those that may be left out.
                inside = self.facts_of(piece, facts)
                if inside is not None:
                    highs.append(inside.greatest(piece.height(moment, part)))
                    lows.append(inside.least(piece.height(moment, part)))
            high, low = (act(script, facts, ("part", part, moment)) for act in (greatest, least))
            for each in highs:
                self.assertTrue(high is None or each.compared(high) <= 0)
            for each in lows:
                self.assertGreaterEqual(each.compared(low), 0)

    def facts_of(self, piece, facts):
        forms = (*facts.forms, *piece.conditions)
        return Facts(facts.names, forms) if len(forms) <= 8 else None


class ToldTest(PiecesCase):

    def test_forms_that_must_be_so(self):
        for piece in pieces(LINES, LINE_FACTS):
            self.assertEqual(str(piece.height(0, "load")), "10 - a")
            self.assertEqual(str(piece.hook(1, "A")), "10")
            self.assertEqual(piece.hook("last", "B"), Form(10))
            self.assertIs(type(piece.height(moment=1, part="load")), Form)
            self.assertEqual(piece.hook(moment=0, hook="A"), Form(10))

    def test_forms_of_hauls(self):
        # Here b always holds the load, and A is far too low to do so.
        facts = Facts("ab", (Form(-12, (("a", 1),)), Form(8, (("b", -1),))))
        for piece in pieces(LINES, facts):
            self.assertEqual(str(piece.height("last", "load")), "10 - b")
            self.assertEqual(str(piece.hook(1, "A")), "10 + a - b")

    def test_scripts_without_moves(self):
        still = Script(two_lines(), {"A": 10, "B": 10})
        texts = [str(piece.height(0, "load")) for piece in pieces(script=still, facts=Facts("ab"))]
        self.assertEqual(sorted({*texts}), ["0", "10 - a", "10 - b"])

    def test_facts_of_one_point(self):
        point = Facts("ab", (Form(5, (("a", -1),)), Form(-5, (("a", 1),)), Form(5, (("b", -1),)), Form(-5, (("b", 1),))))
        found = pieces(LINES, point)
        self.assertGreater(len(found), 0)
        for piece in found:
            self.assertIs(piece.has({"a": 5, "b": Ratio(5)}), True)
            self.assertEqual(piece.some(), {"a": 5, "b": 5})

    def test_new_dicts_and_lists(self):
        found = pieces(LINES, LINE_FACTS)
        many = len(found)
        found[0].some().clear()
        self.assertEqual(sorted(found[0].some()), ["a", "b"])
        found.clear()
        self.assertEqual(len(pieces(LINES, LINE_FACTS)), many)
        self.assertEqual(LINE_FACTS, Facts("ab", (Form(4, (("a", -1),)), Form(-5, (("b", 1),)))))

    def test_pieces_equal_themselves_alone(self):
        first, again = pieces(LINES, LINE_FACTS)[0], pieces(LINES, LINE_FACTS)[0]
        self.assertIs(first == first, True)
        self.assertIs(first == again, False)
        self.assertTrue(first)


class ErrorsTest(PiecesCase):

    def test_no_scripts_and_no_facts(self):
        for value in [*strange(), two_lines(), LINE_FACTS, Script]:
            self.assert_refused(NotAScript, value, pieces, value, None)
            self.assert_refused(NotAScript, value, pieces, facts=LINE_FACTS, script=value)
        for value in [*strange(), LINES, (), "ab"]:
            self.assert_refused(NotFacts, value, pieces, LINES, value)
            self.assert_refused(NotFacts, value, pieces, facts=value, script=LINES)
        for facts in (Facts("abc"), Facts("a"), Facts("ac")):
            self.assert_refused(OtherNames, facts.names, pieces, LINES, facts)

    def test_moments_hooks_and_parts_that_are_none(self):
        piece = pieces(LINES, LINE_FACTS)[0]
        moments = [-1, 2, 6, LONG, True, False, None, "first", "", "0", Ratio(1), (0,), Hostile(),
                   *[value for value in strange() if type(value) is not int]]
        for moment in moments:
            for act in (piece.hook, piece.height):
                self.assert_refused(InvalidMoment, moment, act, moment, None)
            self.assert_refused(InvalidMoment, moment, piece.hook, hook="A", moment=moment)
            self.assert_refused(InvalidMoment, moment, piece.height, part="load", moment=moment)
        unknown = [value for value in strange() if type(value) is not str or value != "A"]
        for value in ["Z", "", "AB", "a", "loa", "body", *unknown]:
            for moment in (0, 1, "last"):
                self.assert_refused(UnknownHook, value, piece.hook, moment, value)
                self.assert_refused(UnknownPart, value, piece.height, moment, value)

    def test_lengths_that_are_none(self):
        piece = pieces(LINES, LINE_FACTS)[0]
        right = {"a": 1, "b": 9}
        spoilt = [{}, {"a": 1}, {"a": 1, "c": 2}, {**right, "c": 1}, {**right, 1: 1}, {**right, "a": -1}, "ab",
                  {**right, "b": Ratio(-1, 3)}, {**right, "a": True}, {**right, "b": None}, {**right, "b": Hostile()},
                  {**right, "b": "9"}, [("a", 1), ("b", 9)], *strange()]
        for lengths in spoilt:
            self.assert_refused(InvalidLengths, lengths, piece.has, lengths)
            self.assert_refused(InvalidLengths, lengths, piece.has, lengths=lengths)

    def test_lengths_that_do_not_keep_the_facts(self):
        script = Script(stick_man(), {"B": 20, "F": 20, "H": 20})
        facts = Facts("abc", (Form(15, (("a", -1),)),))
        for piece in pieces(script, facts):
            lengths = piece.some()
            self.assertIs(piece.has({**lengths, "a": Ratio(151, 10)}), False)
