"""Tests of slackstrings.scripts."""

from random import Random

from slackstrings.errors import InvalidHeights, InvalidLengths, InvalidMoment, InvalidMoves, NotAPuppet, NoWay
from slackstrings.errors import TooMany, UnknownHook, UnknownPart
from slackstrings.puppets import Puppet
from slackstrings.ratios import Ratio
from slackstrings.samples import stick_man, two_lines
from slackstrings.scripts import Run, Script
from tests.cases import ErrorCase, drawn_puppet, drawn_script
from tests.values import LONG, Agreeing, Hostile, others, strange

START = {"B": 20, "F": 20, "H": 20}
MOVES = (("lift", "F", "foot"), ("move", "BH", -3), ("hold", "H", "body", 12), ("ease", "B", "hand"))
# So far up that the floor holds nothing.
FAR = 10 ** 9


def without_ways():
    """A puppet whose hook B has a way to the hand alone, and whose hook C has none."""
    return Puppet(("hand", "foot"), (), "ABC", (("a", "A", "foot"), ("b", "B", "hand")))


def hold_of(puppet, hook, part, height, lengths):
    """What a hook at a height holds a part at: seen far above the floor, on the strings of this hook alone."""
    others_names = "".join(name for name, end, _ in puppet.strings if end != hook)
    alone = puppet.without(others_names)
    return alone.heights({each: height + FAR for each in puppet.hooks}, lengths_for(alone, lengths))[part] - FAR


def lengths_for(puppet, lengths):
    return {name: lengths[name] for name in puppet.names}


def drawn_lengths(random, names):
    return {name: random.choice((random.randint(0, 25), Ratio(random.randint(0, 50), 2), Ratio(random.randint(0, 75), 3)))
            for name in names}


class ScriptCase(ErrorCase):

    def assert_move(self, puppet, move, before, behind, lengths):
        """The hooks are where the move brings them, by looking at the puppet."""
        moved = move[1]
        for hook in puppet.hooks:
            self.assertIs(type(behind[hook]), Ratio)
            if hook not in moved:
                self.assertEqual(behind[hook], before[hook])
            elif move[0] == "move":
                self.assertEqual(behind[hook], before[hook] + move[2])
        if move[0] == "lift":
            self.assert_lifted(puppet, move, before, behind, lengths)
        if move[0] == "ease":
            self.assert_eased(puppet, move, before, behind, lengths)
        if move[0] == "hold":
            self.assert_held(puppet, move, before, behind, lengths)

    def height_with(self, puppet, move, hooks, lengths, more):
        """The height of the part of a haul, with its hook higher by more."""
        return puppet.heights({**hooks, move[1]: hooks[move[1]] + more}, lengths)[move[2]]

    def assert_lifted(self, puppet, move, before, behind, lengths):
        self.assertGreaterEqual(behind[move[1]].compared(before[move[1]]), 0)
        there = self.height_with(puppet, move, before, lengths, 0)
        self.assertEqual(self.height_with(puppet, move, behind, lengths, 0), there)
        # A little higher, it moves at once.
        for more in (Ratio(1, 1000), 5):
            self.assertEqual(self.height_with(puppet, move, behind, lengths, more), there + more)

    def assert_eased(self, puppet, move, before, behind, lengths):
        self.assertLessEqual(behind[move[1]].compared(before[move[1]]), 0)
        there = self.height_with(puppet, move, behind, lengths, 0)
        for less in (Ratio(-1, 1000), -5, -10 ** 6):
            self.assertEqual(self.height_with(puppet, move, behind, lengths, less), there)
        # If it went down at all, the part sank all the way.
        way = before[move[1]] - behind[move[1]]
        self.assertEqual(self.height_with(puppet, move, before, lengths, 0), there + way)

    def assert_held(self, puppet, move, before, behind, lengths):
        _, hook, part, aim = move
        first = hold_of(puppet, hook, part, before[hook], lengths)
        if first.compared(aim) >= 0:
            self.assertEqual(behind[hook], before[hook])
        else:
            self.assertEqual(hold_of(puppet, hook, part, behind[hook], lengths), aim)


class MakingTest(ScriptCase):

    def test_attributes(self):
        puppet, start = stick_man(), dict(START)
        script = Script(puppet, start, MOVES)
        self.assertIs(script.puppet, puppet)
        self.assertIs(script.moves, MOVES)
        self.assertEqual([script.start, len(script)], [START, 4])
        self.assertEqual(Script(moves=MOVES, start=start, puppet=puppet), script)
        still = Script(puppet, start)
        self.assertEqual([still.moves, len(still), bool(still), bool(script)], [(), 0, False, True])

    def test_new_dicts(self):
        start = {"F": 3, "H": -4, "B": 10 ** 6}
        script = Script(stick_man(), start)
        self.assertIsNot(script.start, script.start)
        script.start.clear()
        script.start["B"] = 7
        start["F"] = 9
        self.assertEqual(script.start, {"F": 3, "H": -4, "B": 10 ** 6})
        self.assertEqual(start, {"F": 9, "H": -4, "B": 10 ** 6})
        self.assertEqual(str(script.run({"a": 0, "b": 0, "c": 0}).hook(0, "F")), "3")

    def test_equality(self):
        script = Script(stick_man(), START, MOVES)
        self.assertIs(script == Script(stick_man(), {"H": 20, "F": 20, "B": 20}, tuple(list(MOVES))), True)
        self.assertIs(script != Script(stick_man(), START, MOVES), False)
        more = Puppet(("body", "hand", "foot"), (("body", "hand", 4), ("body", "foot", 7)), "BFH", stick_man().strings)
        different = [Script(more, START, MOVES), Script(stick_man(), {**START, "F": 21}, MOVES), MOVES,
                     Script(stick_man(), START, MOVES[:3]), Script(stick_man(), START, MOVES[::-1]), stick_man(),
                     script.run({"a": 1, "b": 2, "c": 3}), *strange()]
        for other in different:
            self.assertIs(script == other, False)
            self.assertIs(script != other, True)

    def test_no_puppet(self):
        for value in [*strange(), Puppet, "BFH", ("body",)]:
            self.assert_refused(NotAPuppet, value, Script, value, START, MOVES)
            self.assert_refused(NotAPuppet, value, Script, start=None, moves=None, puppet=value)

    def test_starts_that_are_none(self):
        spoilt = [{}, {"B": 20, "F": 20}, {**START, "A": 1}, {**START, 1: 1}, {"B": 1, "F": 2, "A": 3}, "BFH",
                  [("B", 20)], {"BFH": 20}, *strange()]
        wrong = [10 ** 6 + 1, -10 ** 6 - 1, LONG, True, False, None, "20", Ratio(20), Ratio(1, 2), Hostile(), Agreeing(),
                 [20], (20,)]
        for start in [*spoilt, *[{**START, hook: value} for hook in START for value in wrong]]:
            self.assert_refused(InvalidHeights, start, Script, stick_man(), start, MOVES)
            self.assert_refused(InvalidHeights, start, Script, stick_man(), start, None)
            self.assert_refused(InvalidHeights, start, Script, puppet=stick_man(), start=start)
        edges = {"B": 10 ** 6, "F": -10 ** 6, "H": 0}
        self.assertEqual(Script(stick_man(), edges).start, edges)

    def test_moves_that_are_no_tuple_or_too_many(self):
        move = ("move", "B", 1)
        no_tuples = [value for value in others() if type(value) is not tuple]
        for moves in [[move], list(MOVES), (move,) * 7, (None,) * 7, "move", move[0], {"move": 1}, *no_tuples]:
            self.assert_refused(InvalidMoves, None, Script, stick_man(), START, moves)
            self.assert_refused(InvalidMoves, None, Script, moves=moves, start=START, puppet=stick_man())
        self.assertEqual(len(Script(stick_man(), START, (move,) * 6)), 6)

    def test_moves_that_are_none(self):
        hooks = ["", "HB", "BB", "Z", "BZ", "bf", "B F", "B,F", "ABFH", ["B"], ("B",), "BFHH", *strange()]
        numbers = [10 ** 6 + 1, -10 ** 6 - 1, LONG, True, False, None, "3", Ratio(3), Ratio(1, 2), Hostile(), [3]]
        letters = ["", "Z", "BF", "b", "foot", *strange()]
        parts = ["", "fo", "footfoot", "nobody", "B", "f", *strange()]
        spoilt = [("move", each, 3) for each in hooks] + [("move", "B", each) for each in numbers]
        for kind, rest in (("lift", ()), ("ease", ()), ("hold", (7,))):
            spoilt += [(kind, each, "foot", *rest) for each in letters]
            spoilt += [(kind, "F", each, *rest) for each in parts]
            spoilt += [(kind, "F"), (kind,), (kind, "F", "foot", *rest, 7), [kind, "F", "foot", *rest]]
        spoilt += [("hold", "F", "foot", each) for each in numbers]
        spoilt += [("hold", "F", "foot"), ("move", "B"), ("move", "B", 3, 3), ("move", "B", "foot"), ["move", "B", 3],
                   ("lift", "F", "foot", 0), ("lift", "FH", "foot"), ("Lift", "F", "foot"), ("raise", "F", "foot"),
                   ("", "F", "foot"), (Hostile(), "F", "foot"), (Agreeing(), "F", "foot"), (None, "F", "foot"),
                   (b"move", "B", 3), ("moves", "B", 3), "move", "lif", *strange()]
        random = Random(1)
        for move in spoilt:
            at = random.randint(0, 3)
            for moves in [(*MOVES[:at], move, *MOVES[at:]), (*MOVES[:at], move, None)]:
                self.assert_refused(InvalidMoves, at, Script, stick_man(), START, moves)
                self.assert_refused(InvalidMoves, at, Script(stick_man(), START, moves[:at]).then, move)

    def test_edges_of_moves(self):
        moves = (("move", "BFH", 10 ** 6), ("move", "B", -10 ** 6), ("hold", "B", "foot", -10 ** 6),
                 ("hold", "B", "body", 10 ** 6), ("lift", "B", "body"))
        self.assertEqual(Script(stick_man(), START, moves).moves, moves)

    def test_too_many_hauls(self):
        lift, move = ("lift", "F", "foot"), ("move", "B", 1)
        for moves in [(lift,) * 4, (lift, move, lift, move, lift, lift), (*MOVES, ("lift", "F", "hand")), (lift,) * 6]:
            self.assert_refused(TooMany, 3, Script, stick_man(), START, moves)
        self.assertEqual(len(Script(stick_man(), START, (lift, move, lift, move, lift, move))), 6)

    def test_no_way(self):
        start, puppet = {"A": 1, "B": 2, "C": 3}, without_ways()
        for kind, rest in (("lift", ()), ("ease", ()), ("hold", (7,))):
            move = (kind, "B", "foot", *rest)
            self.assert_refused(NoWay, 0, Script, puppet, start, (move,))
            self.assert_refused(NoWay, 2, Script, puppet, start, (("move", "C", 1), (kind, "A", "foot", *rest), move, move))
            self.assert_refused(NoWay, 1, Script(puppet, start, (("move", "C", 1),)).then, (kind, "C", "hand", *rest))
            self.assertEqual(len(Script(puppet, start, ((kind, "B", "hand", *rest),))), 1)

    def test_order_of_errors(self):
        start, puppet, none = {"A": 1, "B": 2, "C": 3}, without_ways(), ("lift", "B", "foot")
        self.assert_refused(InvalidHeights, None, Script, puppet, None, [none])
        self.assert_refused(InvalidMoves, 4, Script, puppet, start, (none,) * 4 + (("lift", "B"),))
        self.assert_refused(InvalidMoves, None, Script, puppet, start, (none,) * 7)
        self.assert_refused(TooMany, 3, Script, puppet, start, (none,) * 4)
        self.assert_refused(NoWay, 0, Script, puppet, start, (none,) * 3)


class ThenTest(ScriptCase):

    def test_one_more(self):
        script = Script(stick_man(), START)
        for at, move in enumerate(MOVES):
            longer = script.then(move)
            self.assertEqual(longer, Script(stick_man(), START, MOVES[:at + 1]))
            self.assertEqual(script, Script(stick_man(), START, MOVES[:at]))
            script = longer
        self.assertEqual(script.then(move=("move", "F", 0)).moves[-1], ("move", "F", 0))

    def test_errors(self):
        full = Script(stick_man(), START, (("move", "B", 1),) * 6)
        for move in [None, ("move", "B", 1), ("lift", "F", "foot")]:
            self.assert_refused(InvalidMoves, None, full.then, move)
        hauled = Script(stick_man(), START, (("lift", "F", "foot"),) * 3)
        self.assert_refused(TooMany, 3, hauled.then, ("ease", "F", "foot"))
        self.assert_refused(InvalidMoves, 3, hauled.then, move=("ease", "F", "nobody"))
        three = Script(without_ways(), {"A": 1, "B": 2, "C": 3}, (("lift", "B", "hand"),) * 3)
        self.assert_refused(TooMany, 3, three.then, ("ease", "C", "foot"))


class RunTest(ScriptCase):

    def test_drawn_runs(self):
        random = Random(2)
        kinds = {}
        for _ in range(300):
            puppet = drawn_puppet(random, 5, 5, 3)
            script = drawn_script(random, puppet, 6, 3)
            lengths = drawn_lengths(random, puppet.names)
            run = script.run(lengths)
            self.assert_run(script, run, lengths)
            for move in script.moves:
                kinds[move[0]] = kinds.get(move[0], 0) + 1
        self.assertGreater(min(kinds.values()), 50)

    def assert_run(self, script, run, lengths):
        self.assertIs(run.script, script)
        self.assertEqual(len(run), len(script) + 1)
        rows = [{hook: run.hook(moment, hook) for hook in script.puppet.hooks} for moment in range(len(run))]
        self.assertEqual(rows[0], script.start)
        for move, before, behind in zip(script.moves, rows, rows[1:]):
            self.assert_move(script.puppet, move, before, behind, lengths)
        for moment, hooks in [*enumerate(rows), ("last", rows[-1])]:
            heights = script.puppet.heights(hooks, lengths)
            self.assertEqual({part: run.height(moment, part) for part in heights}, heights)
            self.assertTrue(all(type(run.height(moment, part)) is Ratio for part in heights))
            self.assertEqual({hook: run.hook(moment, hook) for hook in hooks}, hooks)
            self.assertEqual(run.taut(moment), script.puppet.taut(hooks, lengths))

    def test_told_lifts(self):
        rows = [((10, 7), {"a": 3, "b": 2}, "A", "10"), ((10, 7), {"a": 9, "b": 2}, "A", "14"),
                ((10, 7), {"a": 12, "b": 9}, "A", "12"), ((-5, 0), {"a": 1, "b": 1}, "A", "1")]
        for (first, second), lengths, hook, height in rows:
            script = Script(two_lines(), {"A": first, "B": second}, (("lift", hook, "load"),))
            self.assertEqual(str(script.run(lengths).hook("last", hook)), height)

    def test_told_eases(self):
        rows = [((10, 7), {"a": 3, "b": 2}, "8"), ((10, 7), {"a": 9, "b": 2}, "10"), ((10, 7), {"a": 12, "b": 9}, "10"),
                ((10, 1), {"a": 3, "b": 9}, "3"), ((10, 7), {"a": 3, "b": Ratio(1, 2)}, "19/2")]
        for (first, second), lengths, height in rows:
            script = Script(two_lines(), {"A": first, "B": second}, (("ease", "A", "load"),))
            self.assertEqual(str(script.run(lengths).hook("last", "A")), height)

    def test_told_holds(self):
        rows = [(8, {"a": 3, "b": 2}, "11"), (7, {"a": 3, "b": 2}, "10"), (6, {"a": 3, "b": 2}, "10"),
                (-4, {"a": 16, "b": 2}, "12"), (-6, {"a": 16, "b": 2}, "10"), (0, {"a": Ratio(21, 2), "b": 0}, "21/2")]
        for aim, lengths, height in rows:
            script = Script(two_lines(), {"A": 10, "B": 7}, (("hold", "A", "load", aim),))
            self.assertEqual(str(script.run(lengths).hook("last", "A")), height)

    def test_several_strings_of_one_hook(self):
        puppet = Puppet(("hand", "foot"), (("hand", "foot", 2),), "AB",
                        (("a", "A", "hand"), ("b", "A", "foot"), ("c", "B", "hand")))
        lengths = {"a": 5, "b": 1, "c": 0}
        # What A holds the hand at is 4 above b, by way of the tie: at 10 less 1 less 2.
        for move, height in [(("lift", "A", "hand"), "15"), (("hold", "A", "hand", 9), "12"), (("ease", "B", "hand"), "7")]:
            run = Script(puppet, {"A": 10, "B": 12}, (move,)).run(lengths)
            self.assertEqual(str(run.hook(1, move[1])), height)

    def test_lengths(self):
        lengths = {"c": 30, "a": Ratio(1, 2), "b": 10}
        run = Script(stick_man(), START, MOVES).run(lengths=lengths)
        self.assertEqual(run.lengths, lengths)
        self.assertIsNot(run.lengths, run.lengths)
        first = [str(run.height(moment, "foot")) for moment in range(5)]
        run.lengths.clear()
        lengths["c"] = 0
        self.assertEqual(run.lengths, {"a": Ratio(1, 2), "b": 10, "c": 30})
        self.assertEqual([str(run.height(moment, "foot")) for moment in range(5)], first)

    def test_lengths_that_are_none(self):
        script = Script(two_lines(), {"A": 1, "B": 2}, (("lift", "A", "load"),))
        right = {"a": 1, "b": 2}
        spoilt = [{}, {"a": 1}, {"a": 1, "c": 2}, {**right, "c": 1}, {**right, 1: 1}, {**right, "a": -1}, "ab",
                  {**right, "b": Ratio(-1, 3)}, {**right, "a": True}, {**right, "b": None}, {**right, "b": Hostile()},
                  {**right, "b": "2"}, [("a", 1), ("b", 2)], *strange()]
        for lengths in spoilt:
            self.assert_refused(InvalidLengths, lengths, script.run, lengths)
            self.assert_refused(InvalidLengths, lengths, script.run, lengths=lengths)

    def test_moments_that_are_none(self):
        moments = [-1, 5, 6, LONG, True, False, None, "first", "Last", "", "0", "last ", Ratio(1), Ratio(0), (0,), [0],
                   *[value for value in strange() if type(value) is not int]]
        run = Script(stick_man(), START, MOVES).run({"a": 1, "b": 2, "c": 3})
        for moment in moments:
            for act in (run.hook, run.height):
                self.assert_refused(InvalidMoment, moment, act, moment, "B")
                self.assert_refused(InvalidMoment, moment, act, moment, None)
            self.assert_refused(InvalidMoment, moment, run.hook, hook="B", moment=moment)
            self.assert_refused(InvalidMoment, moment, run.height, part="foot", moment=moment)
            self.assert_refused(InvalidMoment, moment, run.taut, moment)
            self.assert_refused(InvalidMoment, moment, run.taut, moment=moment)
        still = Script(two_lines(), {"A": 1, "B": 2}).run({"a": 0, "b": 0})
        self.assert_refused(InvalidMoment, 1, still.taut, 1)
        self.assertEqual([still.taut(0), still.taut("last"), len(still)], ["b", "b", 1])

    def test_unknown_hooks_and_parts(self):
        run = Script(stick_man(), START, MOVES).run({"a": 1, "b": 2, "c": 3})
        for value in ["Z", "", "BF", "b", "nobody", "foo", *strange()]:
            for moment in (0, 4, "last"):
                self.assert_refused(UnknownHook, value, run.hook, moment, value)
                self.assert_refused(UnknownPart, value, run.height, moment, value)
            self.assert_refused(UnknownHook, value, run.hook, hook=value, moment=0)
            self.assert_refused(UnknownPart, value, run.height, part=value, moment=0)

    def test_runs_equal_themselves_alone(self):
        script = Script(stick_man(), START, MOVES)
        run = script.run({"a": 1, "b": 2, "c": 3})
        self.assertIs(type(run), Run)
        self.assertIs(run == run, True)
        self.assertIs(run == script.run({"a": 1, "b": 2, "c": 3}), False)
        self.assertTrue(run)
