"""Tests of slackstrings.stages."""

from random import Random

from slackstrings.always import always, breach
from slackstrings.errors import Busy, InvalidGuards, InvalidHeights, InvalidLengths, InvalidMoves, NotAPuppet, NotFacts
from slackstrings.errors import NothingToUndo, NoWay, OtherNames, Refused, TooMany
from slackstrings.facts import Facts
from slackstrings.forms import Form
from slackstrings.puppets import Puppet
from slackstrings.ratios import Ratio
from slackstrings.samples import stick_man, two_lines
from slackstrings.scripts import Script
from slackstrings.stages import Stage, attempt
from slackstrings.wishes import Wish
from tests.cases import ErrorCase, drawn_facts, drawn_move, drawn_puppet, drawn_wish
from tests.values import LONG, Agreeing, Hostile, nested, strange

START = {"A": 10, "B": 10}
FACTS = Facts("ab", (Form(4, (("a", -1),)), Form(-5, (("b", 1),))))
FREE = Facts("ab")
UP, DOWN = ("move", "AB", 3), ("move", "AB", -3)
AT_LEAST_SIX = Wish.read("(over load@last floor 6)")
AT_MOST_THIRTY = Wish.read("(over floor load@last -30)")


class Boom(Exception):
    """What a watch or an act raises."""


def lines(*guards, facts=FACTS):
    return Stage(two_lines(), facts, START, guards)


def without_way():
    """A stage of a puppet whose hook C has no way to any part."""
    return Stage(Puppet(("load", "flag"), (), "ABC", two_lines().strings), FREE, {"A": 1, "B": 2, "C": 3})


class StageCase(ErrorCase):

    def assert_is(self, stage, *moves, busy=False):
        """The stage shows just these moves."""
        self.assertEqual(stage.log, moves)
        self.assertIs(type(stage.log), tuple)
        self.assertEqual(stage.script, Script(stage.puppet, stage.script.start, moves))
        self.assertEqual([len(stage), bool(stage), stage.busy], [len(moves), bool(moves), busy])

    def assert_raises(self, error, attributes, act, *given, **named):
        with self.assertRaises(error) as caught:
            act(*given, **named)
        self.assertIs(type(caught.exception), error)
        self.assertEqual(vars(caught.exception), attributes)

    def assert_refusal(self, told, guard, script, facts, act, *given, **named):
        """A move is refused, which is told, with lengths for which the guard does not hold behind the script."""
        with self.assertRaises(Refused) as caught:
            act(*given, **named)
        self.assertIs(type(caught.exception), Refused)
        self.assertEqual(sorted(vars(caught.exception)), ["move", "shown"])
        self.assertIs(caught.exception.move, told)
        shown = caught.exception.shown
        self.assertIs(type(shown), dict)
        self.assertTrue(all(type(length) is Ratio for length in shown.values()))
        self.assertIs(facts.keeps(shown), True)
        self.assertIs(guard.holds(script.run(shown)), False)


class MakingTest(StageCase):

    def test_attributes(self):
        puppet, guards, start = two_lines(), (AT_LEAST_SIX, AT_MOST_THIRTY), dict(START)
        for stage in (Stage(puppet, FACTS, start, guards),
                      Stage(guards=guards, start=start, facts=FACTS, puppet=puppet)):
            self.assertIs(stage.puppet, puppet)
            self.assertIs(stage.facts, FACTS)
            self.assertIs(stage.guards, guards)
            self.assertEqual(stage.script.start, START)
            self.assert_is(stage)
        self.assertEqual([Stage(puppet, FACTS, start).guards, start], [(), START])
        start["A"] = 99
        self.assertEqual(stage.script.start, START)

    def test_equality(self):
        stage = lines()
        self.assertIs(stage == stage, True)
        self.assertIs(stage == lines(), False)
        self.assertIs(stage != lines(), True)

    def test_errors_in_their_order(self):
        for value in [*strange(), FACTS, Puppet, Script(two_lines(), START)]:
            self.assert_refused(NotAPuppet, value, Stage, value, None, None, None)
            self.assert_refused(NotAPuppet, value, Stage, guards=None, start=None, facts=None, puppet=value)
        for value in [*strange(), two_lines(), "ab"]:
            self.assert_refused(NotFacts, value, Stage, two_lines(), value, None, None)
        for facts in (Facts("a"), Facts("ac"), Facts("abc")):
            self.assert_refused(OtherNames, facts.names, Stage, two_lines(), facts, None, None)
        for start in [{}, {"A": 1}, {"A": 1, "B": 2, "C": 3}, {"A": 1, "C": 2}, {"A": 1, "B": Ratio(2)},
                      {"A": True, "B": 1}, {"A": 10 ** 6 + 1, "B": 1}, {"A": 1, "B": None}, "AB", *strange()]:
            self.assert_refused(InvalidHeights, start, Stage, two_lines(), FACTS, start, None)

    def test_guards_that_are_none(self):
        wrong = [None, AT_LEAST_SIX.form, str(AT_LEAST_SIX), Wish, Wish.read("(over load@0 floor 0)"),
                 Wish.read("(over load@1 floor 0)"), Wish.read("(over foot@last floor 0)"), Wish.read("(over c a -99)"),
                 Wish.read("(over C@last floor 0)"), Wish.read("(or (over a a 0) (over A@0 A@last 0))"), *strange()]
        for guard in wrong:
            for index in range(4):
                guards = (*[AT_LEAST_SIX] * index, guard, *[None] * (3 - index))
                self.assert_refused(InvalidGuards, index, Stage, two_lines(), FACTS, START, guards)
                self.assert_refused(InvalidGuards, index, Stage, two_lines(), FACTS, START, guards=guards)
        for guards in [[], [AT_LEAST_SIX], AT_LEAST_SIX, None, (AT_LEAST_SIX,) * 5, (None,) * 5, {}, nested(20)]:
            self.assert_refused(InvalidGuards, None, Stage, two_lines(), FACTS, START, guards)
        # What is wrong comes ahead of what is refused.
        high = Wish.read("(over load@last floor 9)")
        self.assert_refused(InvalidGuards, 1, Stage, two_lines(), FACTS, START, (high, None))

    def test_guards_without_heights(self):
        guards = (Wish.read("(over b a 1)"), Wish.read("(not (over floor floor 1))"), AT_LEAST_SIX,
                  Wish.read("(over A@last B@last 0)"))
        stage = lines(*guards)
        self.assertIs(stage.guards[3], guards[3])
        stage.do(("move", "A", 1))
        move = ("move", "B", 2)
        self.assert_refusal(move, guards[3], stage.script.then(move), FACTS, stage.do, move)

    def test_refused_at_once(self):
        script = Script(two_lines(), START)
        high, low = Wish.read("(over load@last floor 7)"), Wish.read("(over floor load@last -9)")
        self.assert_refusal(None, high, script, FACTS, Stage, two_lines(), FACTS, START, (high,))
        self.assert_refusal(None, high, script, FACTS, Stage, two_lines(), FACTS, START, (AT_LEAST_SIX, high, low))
        # The second of two: the first one always holds.
        self.assert_refusal(None, low, script, FACTS, Stage, two_lines(), FACTS, START, (AT_LEAST_SIX, low))
        self.assert_refusal(None, low, script, FACTS, Stage, two_lines(), FACTS, START, (low, high))


class DoTest(StageCase):

    def test_each_kind_of_move(self):
        guard = Wish.read("(and (over load@last floor 3) (over floor load@last -13))")
        lift = Wish.read("(over floor B@last -99)")
        # Behind an ease the string b holds the load, which may be nowhere; a lift goes up as far as b is long.
        rows = [(guard, UP, ("move", "AB", 4)), (guard, DOWN, ("move", "A", -4)), (guard, ("lift", "B", "load"), None),
                (guard, ("hold", "B", "load", 12), ("hold", "B", "load", 14)), (lift, ("ease", "B", "load"), None),
                (guard, ("ease", "B", "load"), ("ease", "A", "load")), (lift, ("lift", "A", "load"), ("lift", "B", "load"))]
        for wish, good, bad in rows:
            stage = lines(wish)
            self.assertIsNone(stage.do(good))
            self.assert_is(stage, good)
            self.assertIs(stage.log[0], good)
            stage = lines(wish)
            if bad is not None:
                self.assert_refusal(bad, wish, stage.script.then(bad), FACTS, stage.do, bad)
                self.assert_refusal(bad, wish, stage.script.then(bad), FACTS, stage.do, move=bad)
                self.assert_is(stage)

    def test_the_first_guard_that_fails(self):
        stage = lines(AT_LEAST_SIX, Wish.read("(over floor load@last -12)"), Wish.read("(over floor A@last -12)"))
        move = ("move", "A", 3)
        self.assert_refusal(move, stage.guards[1], stage.script.then(move), FACTS, stage.do, move)
        self.assert_is(stage)

    def test_drawn_moves(self):
        random = Random(1)
        refused = done = 0
        for _ in range(120):
            puppet = drawn_puppet(random, 3, 3, 3)
            facts = drawn_facts(random, puppet.names)
            start = {hook: random.randint(0, 25) for hook in puppet.hooks}
            script = Script(puppet, start)
            wishes = [self.at_last(drawn_wish(random, script)) for _ in range(8)]
            guards = tuple([wish for wish in wishes if always(script, facts, wish)][:4])
            stage = Stage(puppet, facts, start, guards)
            for _ in range(4):
                move = drawn_move(random, puppet, random.random() < 0.6)
                before = stage.log
                try:
                    stage.do(move)
                except Refused as error:
                    refused += 1
                    longer = Script(puppet, start, (*before, move))
                    failing = [guard for guard in guards if breach(longer, facts, guard) is not None]
                    self.assertIs(failing[0].holds(longer.run(error.shown)), False)
                    self.assertTrue(facts.keeps(error.shown))
                    self.assertIs(error.move, move)
                    self.assert_is(stage, *before)
                except TooMany:
                    self.assert_is(stage, *before)
                else:
                    done += 1
                    self.assert_is(stage, *before, move)
                for guard in guards:
                    self.assertTrue(always(stage.script, facts, guard))
        self.assertGreater(min(refused, done), 50)

    def at_last(self, wish):
        """The same wish with all moments the last one."""
        def moved(form):
            if form[0] in ("hook", "part"):
                return (*form[:2], "last")
            return tuple(moved(each) if isinstance(each, tuple) and form[0] != "length" else each for each in form)
        if wish.form[0] == "over":
            return Wish(("over", moved(wish.form[1]), moved(wish.form[2]), wish.form[3]))
        return Wish((wish.form[0], *[self.at_last(Wish(each)).form for each in wish.form[1:]]))

    def test_six_moves_and_a_seventh(self):
        stage = lines(AT_LEAST_SIX)
        moves = [UP] * 3 + [("move", "A", each) for each in range(3)]
        for move in moves:
            stage.do(move)
        for move in (UP, DOWN, ("move", "AB", -9), ("lift", "A", "load")):
            self.assert_refused(TooMany, 6, stage.do, move)
            self.assert_refused(TooMany, 6, stage.do_all, (move,))
        self.assert_refused(InvalidMoves, 0, stage.do, ("move", "C", 1))
        self.assert_is(stage, *moves)

    def test_three_hauls_and_a_fourth(self):
        stage = lines()
        hauls = [("lift", "A", "load"), ("hold", "B", "load", 9), ("ease", "A", "load")]
        stage.do_all((hauls[0], UP, hauls[1], hauls[2]))
        for move in [*hauls, ("hold", "A", "load", -9)]:
            self.assert_refused(TooMany, 3, stage.do, move)
            self.assert_refused(TooMany, 3, stage.do_all, (move,))
        stage.do(DOWN)
        # Seven moves are looked for first, and a way last.
        stage.do(UP)
        self.assert_refused(TooMany, 6, stage.do, hauls[0])
        self.assert_is(stage, hauls[0], UP, hauls[1], hauls[2], DOWN, UP)
        other = without_way()
        other.do_all((("lift", "A", "load"),) * 3)
        self.assert_refused(TooMany, 3, other.do, ("lift", "C", "load"))

    def test_no_way(self):
        stage = without_way()
        for move in [("lift", "C", "load"), ("ease", "A", "flag"), ("hold", "B", "flag", 7)]:
            self.assert_refused(NoWay, 0, stage.do, move)
            self.assert_refused(NoWay, 0, stage.do_all, (UP, UP, move))
        self.assert_is(stage)

    def test_what_is_no_move(self):
        wrong = [("move", "BA", 1), ("move", "", 1), ("move", "AC", 1), ("move", "A", Ratio(1)), ("move", "A", True),
                 ("move", "A", 10 ** 6 + 1), ("lift", "A"), ("lift", "A", "foot"), ("lift", "AB", "load"), ["move", "A", 1],
                 ("hold", "A", "load"), ("hold", "A", "load", None), ("hold", "A", "load", LONG), ("lift", "A", "load", 1),
                 ("drop", "A", "load"), (UP,), ("move", Hostile(), 1), ("lift", Agreeing(), "load"), None, *strange()]
        stage = lines(AT_LEAST_SIX)
        for move in wrong:
            self.assert_refused(InvalidMoves, 0, stage.do, move)
            self.assert_refused(InvalidMoves, 0, stage.do, move=move)
            self.assert_refused(InvalidMoves, 2, stage.do_all, (UP, DOWN, move, None))
            self.assert_refused(InvalidMoves, 6, stage.do_all, (UP,) * 6 + (move,))
        self.assert_is(stage)


class DoAllTest(StageCase):

    def seen_by(self, told):
        """A watch that notes what it is called with, and what the stage shows then."""
        def watch(stage, index):
            told.append((index, stage.log, stage.script.moves, len(stage), stage.busy))
        return watch

    def test_all_done(self):
        stage, told = lines(AT_LEAST_SIX), []
        first, second, third = UP, ("lift", "B", "load"), DOWN
        self.assertIsNone(stage.do_all((first, second, third), watch=self.seen_by(told)))
        self.assert_is(stage, first, second, third)
        self.assertIs(stage.log[1], second)
        self.assertEqual(told, [(0, (first,), (first,), 1, True), (1, (first, second), (first, second), 2, True),
                                (2, (first, second, third), (first, second, third), 3, True)])
        stage.do_all(())
        stage.do_all(moves=(UP,), watch=None)
        stage.do_all((DOWN,))
        self.assert_is(stage, first, second, third, UP, DOWN)

    def test_watch_is_passed_by_name_alone(self):
        with self.assertRaises(TypeError):
            lines().do_all((UP,), None)

    def test_a_watch_that_is_false(self):
        class Watch(list):
            def __call__(self, stage, index):
                self.append(index)
                del self[:]
                told.append(index)
        told, stage = [], lines()
        stage.do_all((UP, DOWN), watch=Watch())
        self.assertEqual(told, [0, 1])

    def test_what_are_no_moves(self):
        stage, told = lines(AT_LEAST_SIX), []
        for moves in [[], [UP], {}, "move", None, iter(()), *[value for value in strange() if type(value) is not tuple]]:
            self.assert_refused(InvalidMoves, None, stage.do_all, moves, watch=self.seen_by(told))
            self.assert_refused(InvalidMoves, None, stage.do_all, moves=moves)
        self.assert_refused(InvalidMoves, 0, stage.do_all, UP, watch=self.seen_by(told))
        self.assertEqual(told, [])
        self.assert_is(stage)

    def test_stopped_at_the_last_move(self):
        hold = ("hold", "A", "load", -3)
        rows = [((), (UP,) * 6 + (DOWN,), 6), ((DOWN,), (UP,) * 6, 6), ((), (hold,) * 4, 3), ((hold, UP), (UP, hold, hold, hold), 3),
                ((UP, UP), (hold, hold, hold, UP, DOWN), 6)]
        for first, moves, limit in rows:
            stage, told = lines(Wish.read("(over load@last floor 0)")), []
            stage.do_all(first)
            self.assert_refused(TooMany, limit, stage.do_all, moves, watch=self.seen_by(told))
            self.assertEqual([row[0] for row in told], list(range(len(moves) - 1)))
            self.assertEqual([row[1] for row in told], [first + moves[:many] for many in range(1, len(moves))])
            self.assert_is(stage, *first)
            self.assert_refused(TooMany, limit, stage.do_all, moves)
            self.assert_is(stage, *first)

    def test_refused_at_the_last_move(self):
        guard = Wish.read("(over floor load@last -20)")
        for first, moves in [((), (UP, ("move", "AB", 9))), ((UP,), (DOWN, UP, UP, UP, UP))]:
            stage, told = lines(AT_LEAST_SIX, guard), []
            stage.do_all(first)
            script = Script(two_lines(), START, (*first, *moves))
            self.assert_refusal(moves[-1], guard, script, FACTS, stage.do_all, moves, watch=self.seen_by(told))
            self.assert_refusal(moves[-1], guard, script, FACTS, stage.do_all, moves)
            self.assertEqual([row[0] for row in told], list(range(len(moves) - 1)))
            self.assert_is(stage, *first)

    def test_stopped_by_a_missing_way(self):
        stage, told = without_way(), []
        stage.do(UP)
        self.assert_refused(NoWay, 0, stage.do_all, (UP, DOWN, ("lift", "C", "flag")), watch=self.seen_by(told))
        self.assertEqual([row[0] for row in told], [0, 1])
        self.assert_is(stage, UP)

    def test_a_watch_that_raises(self):
        for wrong in (Boom(), KeyboardInterrupt(), Busy(), Refused(None, {}), GeneratorExit()):
            for last in range(3):
                stage = lines(AT_LEAST_SIX)
                stage.do(UP)

                def watch(there, index):
                    self.assertEqual(len(there), index + 2)
                    if index == last:
                        raise wrong
                with self.assertRaises(type(wrong)) as caught:
                    stage.do_all((UP, DOWN, UP), watch=watch)
                self.assertIs(caught.exception, wrong)
                self.assert_is(stage, UP)
                stage.do(DOWN)

    def test_a_watch_that_asks_for_everything(self):
        stage, asked = lines(AT_LEAST_SIX), []
        stage.do(UP)
        trial = stage.trial()

        def watch(there, index):
            self.assertIs(there, stage)
            for act in [lambda: there.do(DOWN), lambda: there.do(None), lambda: there.do_all((DOWN,)),
                        lambda: there.do_all(None), lambda: there.do_all((), watch=watch), there.undo, there.trial,
                        lambda: attempt(there, lambda each: asked.append(each))]:
                self.assert_raises(Busy, {}, act)
            self.assert_is(there, *[UP] * (index + 2), busy=True)
            with trial as entered:
                self.assertIs(entered, there)
                self.assert_raises(Busy, {}, there.do, UP)
            self.assert_is(there, *[UP] * (index + 2), busy=True)
            heights = there.heights({"a": 1, "b": 9})
            self.assertEqual([str(height) for height in heights.values()], [str(9 + 3 * (index + 2))])
            asked.append(index)
        stage.do_all((UP, UP), watch=watch)
        self.assertEqual(asked, [0, 1])
        self.assert_is(stage, UP, UP, UP)

    def test_a_watch_that_leads_another_stage(self):
        stage, other = lines(AT_LEAST_SIX), lines(AT_LEAST_SIX)
        stage.do_all((UP, DOWN), watch=lambda there, index: other.do(UP))
        self.assert_is(stage, UP, DOWN)
        self.assert_is(other, UP, UP)
        move = ("move", "AB", -1)
        with self.assertRaises(Refused) as caught:
            stage.do_all((UP, DOWN), watch=lambda there, index: lines(AT_LEAST_SIX).do(move))
        self.assertIs(caught.exception.move, move)
        self.assert_is(stage, UP, DOWN)


class UndoTest(StageCase):

    def test_undo(self):
        stage = lines(AT_LEAST_SIX)
        self.assert_raises(NothingToUndo, {}, stage.undo)
        stage.do(UP)
        stage.do_all((DOWN, ("lift", "B", "load"), UP))
        for left in [(UP, DOWN, ("lift", "B", "load")), (UP, DOWN), (UP,), ()]:
            self.assertIsNone(stage.undo())
            self.assert_is(stage, *left)
        self.assert_raises(NothingToUndo, {}, stage.undo)
        self.assert_is(stage)

    def test_what_is_undone_can_be_done_again(self):
        stage = lines(AT_LEAST_SIX)
        stage.do_all((UP,) * 6)
        stage.undo()
        stage.do(DOWN)
        self.assert_is(stage, *[UP] * 5, DOWN)
        hauled = lines()
        hauled.do_all((("lift", "A", "load"),) * 3)
        hauled.undo()
        hauled.do(("ease", "A", "load"))
        self.assertEqual(len(hauled), 3)

    def test_scripts_that_were_shown_stay(self):
        stage = lines()
        stage.do(UP)
        script, log = stage.script, stage.log
        stage.undo()
        self.assertEqual([script, log], [Script(two_lines(), START, (UP,)), (UP,)])


class TrialTest(StageCase):

    def test_rows_that_end_by_themselves(self):
        stage = lines(AT_LEAST_SIX)
        stage.do(UP)
        with stage.trial() as there:
            self.assertIs(there, stage)
            stage.do(DOWN)
            stage.do_all((UP, UP))
            self.assert_is(stage, UP, DOWN, UP, UP)
        self.assert_is(stage, UP)

    def test_rows_that_end_by_an_error(self):
        stage = lines(AT_LEAST_SIX)
        stage.do(UP)
        for wrong in (Boom(), KeyboardInterrupt()):
            with self.assertRaises(type(wrong)) as caught:
                with stage.trial():
                    stage.do(UP)
                    raise wrong
            self.assertIs(caught.exception, wrong)
            self.assert_is(stage, UP)
        with self.assertRaises(Refused):
            with stage.trial():
                stage.do(UP)
                stage.do(("move", "AB", -99))
        self.assert_is(stage, UP)

    def test_rows_that_are_left(self):
        stage = lines()
        def left():
            with stage.trial():
                stage.do(UP)
                return len(stage)
        self.assertEqual(left(), 1)
        for _ in range(2):
            with stage.trial():
                stage.do(UP)
                continue
        self.assert_is(stage)

    def test_undo_beyond_the_beginning(self):
        stage = lines(AT_LEAST_SIX)
        stage.do_all((UP, DOWN, UP))
        with stage.trial():
            for _ in range(3):
                stage.undo()
            self.assert_raises(NothingToUndo, {}, stage.undo)
            stage.do(("lift", "A", "load"))
            self.assert_is(stage, ("lift", "A", "load"))
        self.assert_is(stage, UP, DOWN, UP)

    def test_trials_within_trials(self):
        stage = lines()
        with stage.trial():
            stage.do(UP)
            with stage.trial():
                stage.do(DOWN)
                stage.undo()
                stage.undo()
                self.assert_is(stage)
            self.assert_is(stage, UP)
            stage.do(UP)
            with self.assertRaises(Boom), stage.trial():
                stage.do(UP)
                raise Boom
            self.assert_is(stage, UP, UP)
        self.assert_is(stage)

    def test_entered_again(self):
        stage = lines()
        trial = stage.trial()
        stage.do(UP)
        for _ in range(2):
            # What counts is the beginning of the rows, not where the stage was as the trial was asked for.
            with trial as there:
                there.do(DOWN)
            self.assert_is(stage, UP)
        stage.do(UP)
        with trial:
            stage.do(DOWN)
            with trial:
                stage.undo()
                stage.undo()
                with trial as there:
                    there.do(DOWN)
                self.assert_is(stage, UP)
            self.assert_is(stage, UP, UP, DOWN)
            with self.assertRaises(Boom), trial:
                stage.undo()
                raise Boom
            self.assert_is(stage, UP, UP, DOWN)
        self.assert_is(stage, UP, UP)

    def test_around_do_all(self):
        stage = lines(AT_LEAST_SIX)
        stage.do(UP)
        with stage.trial():
            with self.assertRaises(Boom):
                stage.do_all((UP, DOWN), watch=self.raising)
            self.assert_is(stage, UP)
            stage.do_all((DOWN,))
            self.assert_is(stage, UP, DOWN)
        self.assert_is(stage, UP)

    def raising(self, stage, index):
        raise Boom

    def test_entered_while_busy(self):
        stage = lines()
        trial = stage.trial()

        def watch(there, index):
            with trial:
                self.assert_raises(Busy, {}, there.undo)
                with trial:
                    self.assert_is(there, *[UP] * (index + 1), busy=True)
            self.assert_is(there, *[UP] * (index + 1), busy=True)
            if index == 2:
                with trial:
                    raise Boom
        with self.assertRaises(Boom):
            stage.do_all((UP,) * 3, watch=watch)
        self.assert_is(stage)
        stage.do_all((UP,) * 2, watch=watch)
        self.assert_is(stage, UP, UP)

    def test_rows_around_that_end_while_busy(self):
        # The rows are those of a generator, which watch ends.
        stage = lines()
        def rows():
            with stage.trial():
                stage.do(UP)
                yield
        there = rows()
        next(there)

        def watch(each, index):
            there.close()
            self.assert_is(each, busy=True)
        stage.do_all((DOWN,), watch=watch)
        self.assert_is(stage)


class AttemptTest(StageCase):

    def test_a_value(self):
        stage = lines(AT_LEAST_SIX)
        stage.do(UP)

        def act(there):
            self.assertIs(there, stage)
            there.do_all((UP, UP))
            there.undo()
            return there.log
        self.assertEqual(attempt(stage, act), (UP, UP))
        self.assert_is(stage, UP)
        self.assertEqual(attempt(act=act, stage=stage), (UP, UP))
        self.assertIs(attempt(stage, lambda there: there), stage)
        self.assertIsNone(attempt(stage, lambda there: there.do(DOWN)))
        self.assert_is(stage, UP)

    def test_an_error(self):
        stage, wrong = lines(AT_LEAST_SIX), Boom()
        stage.do(UP)

        def act(there):
            there.undo()
            raise wrong
        with self.assertRaises(Boom) as caught:
            attempt(stage, act)
        self.assertIs(caught.exception, wrong)
        self.assert_is(stage, UP)
        move = ("move", "AB", -99)
        with self.assertRaises(Refused) as caught:
            attempt(stage, lambda there: there.do(move))
        self.assertIs(caught.exception.move, move)
        self.assert_is(stage, UP)

    def test_within_one_another(self):
        stage = lines()
        def act(there):
            there.do(UP)
            inner = attempt(there, lambda each: (each.do(UP), len(each)))
            return inner[1], len(there)
        self.assertEqual(attempt(stage, act), (2, 1))
        self.assert_is(stage)


class HeightsTest(StageCase):

    def test_heights(self):
        stage = Stage(stick_man(), Facts("abc"), {"B": 20, "F": 20, "H": 20})
        lengths = {"a": 12, "b": Ratio(10), "c": 30}
        for moves in [(), (("lift", "F", "foot"), ("move", "F", 5)), (("move", "B", 1),)]:
            stage.do_all(moves)
            run = stage.script.run(lengths)
            found = stage.heights(lengths)
            self.assertEqual(list(found), ["body", "hand", "foot"])
            self.assertTrue(all(type(height) is Ratio for height in found.values()))
            self.assertEqual(found, {part: run.height("last", part) for part in found})
            self.assertEqual(stage.heights(lengths=lengths), found)
            found.clear()
            self.assertEqual(len(stage.heights(lengths)), 3)

    def test_lengths_that_are_none(self):
        stage = lines()
        for lengths in [{}, {"a": 1}, {"a": 1, "b": -1}, {"a": 1, "b": 2, "c": 3}, {"a": True, "b": 1}, *strange()]:
            self.assert_refused(InvalidLengths, lengths, stage.heights, lengths)
            self.assert_refused(InvalidLengths, lengths, stage.heights, lengths=lengths)
        # The lengths need not keep the facts.
        self.assertEqual(str(stage.heights({"a": 6, "b": 6})["load"]), "4")


class TwoStagesTest(StageCase):

    def test_they_do_not_touch_each_other(self):
        puppet, start, guards = two_lines(), dict(START), (AT_LEAST_SIX,)
        one, other = Stage(puppet, FACTS, start, guards), Stage(puppet, FACTS, start, guards)
        one.do(UP)
        other.do_all((("lift", "B", "load"),))
        with one.trial():
            one.undo()
            other.do(UP)
        self.assert_is(one, UP)
        self.assert_is(other, ("lift", "B", "load"), UP)
        one.do_all((UP,), watch=lambda there, index: other.undo())
        self.assert_is(other, ("lift", "B", "load"))
        self.assertEqual([start, puppet, guards], [START, two_lines(), (AT_LEAST_SIX,)])
