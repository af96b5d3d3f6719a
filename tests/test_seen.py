"""Tests of slackstrings.seen."""

from random import Random

from slackstrings.always import always, at_greatest, at_least, ever, greatest, least
from slackstrings.errors import InvalidLevel, InvalidSights, InvalidWish, Never, NotAScript, NotAWish, NotFacts
from slackstrings.errors import OtherNames
from slackstrings.facts import Facts
from slackstrings.forms import Form
from slackstrings.pieces import pieces
from slackstrings.puppets import Puppet
from slackstrings.ratios import Ratio
from slackstrings.samples import stick_man, two_lines
from slackstrings.scripts import Script
from slackstrings.seen import Seen
from slackstrings.wishes import Wish
from tests.cases import ErrorCase, Lengths, as_fraction, as_ratio, corners, drawn_facts, drawn_level, drawn_puppet
from tests.cases import drawn_script, drawn_wish, level_in, numbers_of, rows_of, value
from tests.values import LONG, Agreeing, Hostile, strange

MAN = Script(stick_man(), {"B": 20, "F": 20, "H": 20}, (("lift", "F", "foot"), ("move", "F", 5)))
MAN_FACTS = Facts("abc", (Form(15, (("a", -1),)),))
LINES = Script(two_lines(), {"A": 10, "B": 10})
FREE = Facts("ab")
LOAD = ("part", "load", "last")


class SeenCase(ErrorCase):

    def assert_fitting(self, lengths, seen):
        """Lengths as the program tells them, that keep the facts and lead to all sights."""
        self.assertIs(type(lengths), dict)
        self.assertEqual(sorted(lengths), list(seen.facts.names))
        self.assertTrue(all(type(length) is Ratio for length in lengths.values()))
        self.assertTrue(fits_told(seen, lengths))

    def assert_never(self, seen):
        """No lengths fit: no question has an answer."""
        self.assertIs(seen.fits(), False)
        for act, given in [(seen.some, ()), (seen.greatest, (("floor",),)), (seen.least, (("floor",),)),
                           (seen.sure, (("floor",),)), (seen.always, (Wish.read("(over floor floor 0)"),)),
                           (seen.ever, (Wish.read("(over floor floor 1)"),))]:
            with self.assertRaises(Never) as caught:
                act(*given)
            self.assertIs(type(caught.exception), Never)
            self.assertEqual(vars(caught.exception), {})


def fits_told(seen, lengths):
    """Whether lengths keep the facts and lead to all sights, looked at by a run."""
    run = seen.script.run(lengths)
    return seen.facts.keeps(lengths) and all(run.height(at, part) == height for at, part, height in seen.sights)


def fitting_pieces(seen):
    """Where lengths fit: the piece, rows of which none is below 0, and one or no row that is 0; with their corners."""
    names = seen.facts.names
    for piece in pieces(seen.script, seen.facts):
        rows = rows_of(seen.facts) + [(form.constant, numbers_of(form, names)) for form in piece.conditions]
        levels = []
        for moment, part, height in seen.sights:
            form = piece.height(moment, part)
            row = form.constant - as_fraction(height), numbers_of(form, names)
            if any(row[1]) and not levels:
                levels.append(row)
            else:
                rows += [row, *opposites([row])]
        points = corners(rows, levels) if all(row[0] >= 0 for row in rows if not any(row[1])) else []
        if points:
            yield piece, rows, levels, points


def opposites(rows):
    return [(-constant, [-number for number in numbers]) for constant, numbers in rows]


def bounds_by_hand(seen, level):
    """The least and the greatest of a level for lengths that fit, by looking at all corners of all pieces."""
    lows, highs = [], []
    for piece, rows, levels, points in fitting_pieces(seen):
        names = seen.facts.names
        form = {"floor": lambda: Form(), "length": lambda: Form(0, ((level[1], 1),)),
                "hook": lambda: piece.hook(level[2], level[1]),
                "part": lambda: piece.height(level[2], level[1])}[level[0]]()
        row = form.constant, numbers_of(form, names)
        lows += [value(row, point) for point in points]
        highs += [value(row, point) for point in points]
        ways = corners([(0, numbers) for _, numbers in [*rows, *levels, *opposites(levels)]], [(-1, [1] * len(names))])
        highs += [None for way in ways if value((0, row[1]), way) > 0]
    return (min(lows), None if None in highs else max(highs)) if lows else None


class DrawnTest(SeenCase):

    def drawn(self, random, strings=3, hauls=2):
        """A script, facts that go with it, and lengths that keep them."""
        script = drawn_script(random, drawn_puppet(random, 3, strings, 3), 4, hauls)
        facts = drawn_facts(random, script.puppet.names)
        return script, facts, Lengths(facts)

    def sights_of(self, random, run, many):
        """What is seen of a run, so many times."""
        moments = [random.choice([*range(len(run)), "last"]) for _ in range(many)]
        parts = [random.choice(run.script.puppet.parts) for _ in moments]
        return tuple((moment, part, run.height(moment, part)) for moment, part in zip(moments, parts))

    def test_sights_of_runs(self):
        random = Random(1)
        for turn in range(150):
            script, facts, lengths = self.drawn(random, 4, 3)
            run = script.run(lengths.drawn(random))
            seen = Seen(script, facts, self.sights_of(random, run, turn % 7))
            self.assertIs(seen.fits(), True)
            self.assert_fitting(seen.some(), seen)
            for _ in range(3):
                level, wish = drawn_level(random, script), drawn_wish(random, script)
                there = level_in(level, run)
                high, low, sure = seen.greatest(level), seen.least(level), seen.sure(level)
                self.assertTrue(high is None or high.compared(there) >= 0)
                self.assertLessEqual(low.compared(there), 0)
                self.assertIn(sure, (None, there))
                self.assertIs(sure is None, high is None or high != low)
                self.assertLessEqual(seen.always(wish), wish.holds(run))
                self.assertGreaterEqual(seen.ever(wish), wish.holds(run))

    def test_exactly(self):
        random = Random(2)
        told = {"never": 0, "sure": 0, "several": 0, "unbounded": 0}
        for turn in range(140):
            script, facts, lengths = self.drawn(random)
            run = script.run(lengths.drawn(random))
            sights = self.sights_of(random, run, random.randint(1, 3))
            if turn % 3 == 0:
                # The same a little otherwise.
                moment, part, height = sights[-1]
                near = random.choice((height + 1, height + Ratio(1, 7), height * Ratio(1, 2), Ratio(0)))
                sights = (*sights[:-1], (moment, part, near))
            seen = Seen(script, facts, sights)
            for _ in range(2):
                self.count(told, seen, drawn_level(random, script))
        self.assertGreater(min(told.values()), 12, told)

    def count(self, told, seen, level):
        """Looks at all answers about a level, and counts which they are."""
        bounds = bounds_by_hand(seen, level)
        if bounds is None:
            self.assert_never(seen)
            told["never"] += 1
            return
        self.assert_fitting(seen.some(), seen)
        low, high = bounds
        self.assertEqual(as_fraction(seen.least(level)), low)
        found = seen.greatest(level)
        if high is None:
            self.assertIsNone(found)
            self.assertIsNone(seen.sure(level))
            told["unbounded"] += 1
        else:
            self.assertIs(type(found), Ratio)
            self.assertEqual(as_fraction(found), high)
            self.assertEqual(seen.sure(level), as_ratio(high) if low == high else None)
            told["sure" if low == high else "several"] += 1

    def test_wishes_against_lengths_that_fit(self):
        random = Random(3)
        told = {}
        for _ in range(150):
            script, facts, lengths = self.drawn(random)
            first = script.run(lengths.drawn(random))
            seen = Seen(script, facts, self.sights_of(random, first, random.randint(1, 2)))
            runs = [first, *[script.run(each) for each in self.corners_that_fit(seen)]]
            for _ in range(3):
                wish = drawn_wish(random, script)
                found = seen.always(wish), seen.ever(wish)
                told[found] = told.get(found, 0) + 1
                self.assertEqual(found, (not seen.ever(wish.denied()), not seen.always(wish.denied())))
                for run in runs:
                    self.assertTrue(wish.holds(run) if found[0] else True)
                    self.assertFalse(wish.holds(run) if not found[1] else False)
        self.assertEqual(sorted(told), [(False, False), (False, True), (True, True)])
        self.assertGreater(min(told.values()), 30)

    def corners_that_fit(self, seen):
        names = seen.facts.names
        return [{name: as_ratio(at) for name, at in zip(names, point)}
                for *_, points in fitting_pieces(seen) for point in points]

    def test_no_sights(self):
        random = Random(4)
        for _ in range(60):
            script, facts, _ = self.drawn(random, 4, 3)
            level, wish = drawn_level(random, script), drawn_wish(random, script)
            for seen in (Seen(script, facts), Seen(script, facts, ())):
                self.assertEqual(seen.sights, ())
                self.assertIs(seen.fits(), True)
                self.assertTrue(facts.keeps(seen.some()))
                self.assertEqual(seen.greatest(level), greatest(script, facts, level))
                self.assertEqual(seen.least(level), least(script, facts, level))
                self.assertIs(seen.always(wish), always(script, facts, wish))
                self.assertIs(seen.ever(wish), ever(script, facts, wish))

    def test_where_bounds_are_reached(self):
        random = Random(5)
        for _ in range(60):
            script, facts, _ = self.drawn(random, 4, 3)
            part, moment = random.choice(script.puppet.parts), random.randint(0, len(script))
            level = ("part", part, moment)
            for act in (at_greatest, at_least):
                lengths = act(script, facts, level)
                if lengths is not None:
                    run = script.run(lengths)
                    seen = Seen(script, facts, ((moment, part, run.height(moment, part)),))
                    self.assertEqual(seen.sure(level), run.height(moment, part))
                    # Nothing is seen beyond the bounds.
                    beyond = run.height(moment, part) + (1 if act is at_greatest else Ratio(-1, 9))
                    if beyond.top >= 0:
                        self.assert_never(Seen(script, facts, ((moment, part, beyond),)))


class ToldTest(SeenCase):

    def test_one_string(self):
        # A part that hangs by one string tells how long it is, if it does not lie on the floor.
        random = Random(6)
        puppet = Puppet(("hand", "foot"), (), "AB", (("a", "A", "hand"), ("b", "B", "foot")))
        for _ in range(60):
            high, height = random.randint(1, 30), Ratio(random.randint(0, 60), random.randint(1, 4))
            script = Script(puppet, {"A": high, "B": 5}, (("move", "A", 3), ("lift", "B", "foot")))
            seen = Seen(script, FREE, ((random.choice((1, 2, "last")), "hand", height),))
            if height.compared(high + 3) > 0:
                self.assert_never(seen)
                continue
            if height.top == 0:
                self.assertEqual([str(seen.least(("length", "a"))), seen.greatest(("length", "a"))], [str(high + 3), None])
                self.assertIsNone(seen.sure(("length", "a")))
            else:
                length = high + 3 - height
                self.assertEqual(seen.sure(("length", "a")), length)
                self.assertEqual(seen.some()["a"], length)
                before = length if length.compared(high) < 0 else Ratio(high)
                self.assertEqual(seen.sure(("part", "hand", 0)), high - before)
            self.assertIsNone(seen.sure(("length", "b")))
            self.assertEqual(str(seen.sure(("hook", "A", 1))), str(high + 3))

    def test_the_document(self):
        free = Seen(LINES, FREE, ((0, "load", 7),))
        self.assertEqual([str(free.least(("length", "a"))), free.greatest(("length", "a"))], ["3", None])
        self.assertEqual([str(free.sure(LOAD)), free.sure(("length", "b"))], ["7", None])
        self.assertIs(free.always(Wish.read("(or (and (over a floor 3) (over floor a -3)) (over floor b -3))")), True)
        self.assertIs(free.always(Wish.read("(over floor b -3)")), False)
        self.assertIs(free.ever(Wish.read("(not (or (over a floor 10) (over b floor 10)))")), True)
        self.assertIs(free.ever(Wish.read("(not (and (over a floor 3) (over b floor 3)))")), False)

    def test_two_sights_of_one_load(self):
        moved = Script(two_lines(), {"A": 10, "B": 10}, (("move", "B", 4),))
        both = Seen(moved, FREE, ((0, "load", 7), (1, "load", 8)))
        # The string b, raised by 4, holds the load at 8: it is 6 long, so a held it at first.
        self.assertEqual([str(both.sure(("length", "a"))), str(both.sure(("length", "b")))], ["3", "6"])
        self.assertEqual([str(length) for length in both.some().values()], ["3", "6"])
        self.assert_never(Seen(moved, FREE, ((0, "load", 7), (1, "load", 12))))
        self.assert_never(Seen(moved, FREE, ((0, "load", 7), (1, "load", Ratio(69, 10)))))

    def test_the_same_twice(self):
        for again in (7, Ratio(7), Ratio(14, 2)):
            for moment in (0, "last"):
                seen = Seen(LINES, FREE, ((0, "load", 7), (moment, "load", again)))
                self.assertIs(seen.fits(), True)
                self.assertEqual(str(seen.sure(LOAD)), "7")
        for otherwise in (6, 0, Ratio(71, 10), LONG):
            for moment in (0, "last"):
                self.assert_never(Seen(LINES, FREE, ((0, "load", 7), (moment, "load", otherwise))))

    def test_last_and_the_last_number(self):
        for moment in (2, "last"):
            seen = Seen(MAN, MAN_FACTS, ((moment, "foot", 6), (0, "body", 7)))
            self.assertEqual(str(seen.sure(("part", "foot", 0))), "1")
            self.assertIs(seen.sights[0][0], moment)
            for level in [("part", "foot", 2), ("part", "foot", "last"), ("part", "foot", 2)]:
                self.assertEqual(str(seen.sure(level)), "6")

    def test_sights_on_the_floor(self):
        seen = Seen(LINES, FREE, ((0, "load", 0),))
        self.assertEqual([str(seen.least(("length", name))) for name in "ab"], ["10", "10"])
        self.assertEqual([seen.greatest(("length", name)) for name in "ab"], [None, None])
        self.assertIs(seen.always(Wish.read("(and (over a floor 10) (over b floor 10))")), True)
        self.assert_never(Seen(LINES, Facts("ab", (Form(9, (("b", -1),)),)), ((0, "load", 0),)))

    def test_fractions(self):
        facts = Facts("ab", (Form(-3, (("a", 2), ("b", 5))), Form(3, (("a", -2), ("b", -5)))))
        seen = Seen(LINES, facts, ((0, "load", Ratio(29, 3)),))
        # Either a is 1/3 and b 7/15, or b is 1/3 and a 2/3.
        self.assertEqual([str(seen.least(("length", "a"))), str(seen.greatest(("length", "a")))], ["1/3", "2/3"])
        self.assertEqual([str(seen.least(("length", "b"))), str(seen.greatest(("length", "b")))], ["1/3", "7/15"])
        self.assertIs(seen.ever(Wish.read("(and (over a floor 2/5) (over floor a -3/5))")), False)
        self.assertIsNone(seen.sure(("length", "a")))

    def test_six_sights(self):
        run = MAN.run({"a": 12, "b": 10, "c": 30})
        sights = tuple((moment, part, run.height(moment, part)) for moment, part in [
            (0, "body"), (0, "hand"), (0, "foot"), (1, "foot"), (2, "foot"), ("last", "body")])
        seen = Seen(script=MAN, facts=MAN_FACTS, sights=sights)
        self.assertIs(seen.sights, sights)
        self.assertEqual([str(seen.sure(("length", name))) for name in "ab"], ["12", "10"])
        self.assertEqual([str(seen.least(("length", "c"))), seen.greatest(("length", "c"))], ["18", None])

    def test_attributes(self):
        sights = ((0, "load", 7),)
        seen = Seen(LINES, FREE, sights)
        self.assertIs(seen.script, LINES)
        self.assertIs(seen.facts, FREE)
        self.assertIs(seen.sights, sights)
        self.assertIs(seen == seen, True)
        self.assertIs(seen == Seen(LINES, FREE, sights), False)
        self.assertIs(seen != Seen(LINES, FREE, sights), True)
        self.assertTrue(seen)

    def test_new_dicts(self):
        seen = Seen(LINES, FREE, ((0, "load", 7),))
        seen.some().clear()
        self.assert_fitting(seen.some(), seen)
        self.assertEqual(seen.some(), seen.some())

    def test_with_sight(self):
        seen = Seen(LINES, FREE)
        more = seen.with_sight(0, "load", 7)
        self.assertIs(type(more), Seen)
        self.assertEqual([seen.sights, more.sights], [(), ((0, "load", 7),)])
        self.assertIs(more.script, LINES)
        self.assertIs(more.facts, FREE)
        again = more.with_sight(height=Ratio(8), part="load", moment="last")
        self.assertEqual(again.sights, ((0, "load", 7), ("last", "load", 8)))
        self.assert_never(again)
        self.assertEqual(str(more.sure(LOAD)), "7")
        self.assertIsNone(seen.sure(LOAD))


class ErrorsTest(SeenCase):

    def test_no_scripts_and_no_facts(self):
        for script in [*strange(), two_lines(), FREE, Script, Seen(LINES, FREE)]:
            self.assert_refused(NotAScript, script, Seen, script, None, None)
            self.assert_refused(NotAScript, script, Seen, sights=None, facts=None, script=script)
        for facts in [*strange(), LINES, "ab", Facts]:
            self.assert_refused(NotFacts, facts, Seen, LINES, facts, None)
        for facts in (Facts("a"), Facts("ac"), Facts("abc")):
            self.assert_refused(OtherNames, facts.names, Seen, LINES, facts, None)
            self.assert_refused(OtherNames, facts.names, Seen, LINES, facts)

    def spoilt(self):
        """What is nearly a sight of the man, or not at all."""
        right = (1, "foot", 7)
        moments = [3, 7, -1, LONG, True, False, None, "first", "", "0", Ratio(1), (1,), Hostile(), Agreeing()]
        parts = ["load", "", "f", "feet", "Foot", None, 0, ("foot",), "F", b"foot", Hostile(), Agreeing()]
        heights = [-1, Ratio(-1, 3), -LONG, True, False, None, "7", "7/2", (7, 2), [7], Hostile(), Agreeing()]
        return [[*right], right[:2], (*right, 0), (), *[(each, *right[1:]) for each in moments],
                *[(1, each, 7) for each in parts], *[(1, "foot", each) for each in heights], *strange()]

    def test_spoilt_sights(self):
        random = Random(7)
        run = MAN.run({"a": 12, "b": 10, "c": 30})
        seen = Seen(MAN, MAN_FACTS, (("last", "foot", Ratio(1, 3)),))
        for sight in self.spoilt():
            sights = [(at, part, run.height(at, part)) for at in (0, 1) for part in stick_man().parts]
            index = random.randrange(6)
            sights[index] = sight
            # What is spoilt behind it does not count.
            for behind in (sights[index + 1:], [None] * (5 - index)):
                told = (*sights[:index + 1], *behind)
                self.assert_refused(InvalidSights, index, Seen, MAN, MAN_FACTS, told)
                self.assert_refused(InvalidSights, index, Seen, sights=told, facts=MAN_FACTS, script=MAN)
            if isinstance(sight, tuple) and len(sight) == 3:
                self.assert_refused(InvalidSights, 1, seen.with_sight, *sight)
                self.assert_refused(InvalidSights, 0, Seen(MAN, MAN_FACTS).with_sight, *sight)

    def test_what_are_no_sights(self):
        sight = (0, "load", 7)
        for sights in [[], [sight], sight, {0: sight}, (sight,) * 7, (None,) * 7, *strange()]:
            if type(sights) is not tuple or len(sights) > 6:
                self.assert_refused(InvalidSights, None, Seen, LINES, FREE, sights)
                self.assert_refused(InvalidSights, None, Seen, LINES, FREE, sights=sights)
        full = Seen(LINES, FREE, (sight,) * 6)
        self.assertIs(full.fits(), True)
        for given in (sight, (9, None, -1)):
            self.assert_refused(InvalidSights, None, full.with_sight, *given)
        self.assert_refused(InvalidSights, None, full.with_sight, part="load", height=7, moment=0)
        self.assertEqual(len(full.sights), 6)

    def test_levels_and_wishes_that_are_none(self):
        never = Seen(LINES, FREE, ((0, "load", 7), (0, "load", 8)))
        foreign = Wish.read("(over foot@0 floor 0)")
        late = Wish.read("(over load@1 floor 0)")
        for seen in (Seen(LINES, FREE), never):
            for level in [("part", "foot", 0), ("part", "load", 1), ("hook", "C", 0), ("length", "c"), ["floor"], *strange()]:
                for act in (seen.greatest, seen.least, seen.sure):
                    self.assert_refused(InvalidLevel, level, act, level)
                    self.assert_refused(InvalidLevel, level, act, level=level)
            for act in (seen.always, seen.ever):
                for wish in [*strange(), foreign.form, str(foreign), Wish]:
                    self.assert_refused(NotAWish, wish, act, wish)
                    self.assert_refused(NotAWish, wish, act, wish=wish)
                for wish in (foreign, late, foreign.denied()):
                    self.assert_refused(InvalidWish, wish.form, act, wish)
        self.assert_never(never)
