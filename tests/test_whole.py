"""The whole program: what point 2 of the document tells users, and what one module returns passed on to the others."""

from random import Random

from slackstrings.always import alike, always, at_greatest, at_least, breach, ever, greatest, least, most_above, parting
from slackstrings.always import tolerance
from slackstrings.certificates import certify_always, certify_ever
from slackstrings.checker import holds_claim
from slackstrings.consoles import Console
from slackstrings.errors import Contradictory, Refused, SizeError
from slackstrings.facts import Facts
from slackstrings.forms import Form
from slackstrings.pieces import pieces
from slackstrings.ratios import Ratio
from slackstrings.scripts import Script
from slackstrings.seen import Seen
from slackstrings.spares import idle, least_sets
from slackstrings.stages import Stage, attempt
from slackstrings.wishes import Wish
from tests.cases import ErrorCase, Lengths, as_fraction, drawn_facts, drawn_form, drawn_level, drawn_puppet, drawn_script
from tests.cases import drawn_wish, level_in
from tests.papers import distance


def forms_told(script, facts, wish):
    """The claim about all this but for its word."""
    puppet = script.puppet
    start = tuple((hook, script.start[hook]) for hook in puppet.hooks)
    told = ((puppet.parts, puppet.ties, puppet.hooks, puppet.strings), start, script.moves)
    return told, (facts.names, tuple((form.constant, form.terms) for form in facts.forms)), wish.form


def heights_by_hand(puppet, hooks, lengths):
    """The heights of the parts as the text tells them: Fractions, by the distances alone."""
    told = puppet.parts, puppet.ties, puppet.hooks, puppet.strings
    found = {}
    for part in puppet.parts:
        far = [(hooks[hook], lengths[name], distance(told, end, part)) for name, hook, end in puppet.strings]
        found[part] = max([0, *[high - length - away for high, length, away in far if away is not None]])
    return found


class WholeCase(ErrorCase):

    def drawn(self, random, strings=3, hauls=2):
        """A script, facts that go with it, and lengths to draw from."""
        script = drawn_script(random, drawn_puppet(random, 3, strings, 3), 4, hauls)
        facts = drawn_facts(random, script.puppet.names)
        return script, facts, Lengths(facts)


class PromisesTest(WholeCase):

    def test_runs(self):
        random = Random(1)
        for _ in range(60):
            script, facts, lengths = self.drawn(random, 4, 3)
            run = script.run(lengths.drawn(random))
            told = {name: as_fraction(length) for name, length in run.lengths.items()}
            for moment in range(len(run)):
                hooks = {hook: as_fraction(run.hook(moment, hook)) for hook in script.puppet.hooks}
                heights = heights_by_hand(script.puppet, hooks, told)
                for part, height in heights.items():
                    self.assertEqual(as_fraction(run.height(moment, part)), height)

    def test_always_and_its_breach(self):
        random = Random(2)
        for _ in range(60):
            script, facts, lengths = self.drawn(random)
            wish = drawn_wish(random, script)
            found = breach(script, facts, wish)
            self.assertIs(always(script, facts, wish), found is None)
            if found is None:
                self.assertTrue(all(wish.holds(script.run(each)) for each in lengths.some(random, 5)))
            else:
                self.assertTrue(facts.keeps(found))
                self.assertFalse(wish.holds(script.run(found)))

    def test_least_and_greatest(self):
        random = Random(3)
        for _ in range(60):
            script, facts, lengths = self.drawn(random)
            level = drawn_level(random, script)
            for act, there, sign in ((greatest, at_greatest, 1), (least, at_least, -1)):
                bound, reached = act(script, facts, level), there(script, facts, level)
                if bound is not None:
                    self.assertTrue(facts.keeps(reached))
                    self.assertEqual(level_in(level, script.run(reached)), bound)
                    for each in lengths.some(random, 5):
                        self.assertLessEqual(sign * level_in(level, script.run(each)).compared(bound), 0)

    def test_pieces_seen_and_stages(self):
        random = Random(4)
        for _ in range(40):
            script, facts, lengths = self.drawn(random)
            each = lengths.drawn(random)
            run = script.run(each)
            part, moment = random.choice(script.puppet.parts), random.choice([*range(len(run)), "last"])
            there = [piece for piece in pieces(script, facts) if piece.has(each)]
            self.assertEqual([piece.height(moment, part).at(each) for piece in there], [run.height(moment, part)] * len(there))
            self.assertTrue(there)
            seen = Seen(script, facts, ((moment, part, run.height(moment, part)),))
            self.assertEqual(seen.sure(("part", part, moment)), run.height(moment, part))
            guard = Wish(("over", ("part", part, "last"), ("floor",), 0))
            stage = Stage(script.puppet, facts, script.start, (guard,))
            stage.do_all(script.moves)
            self.assertEqual(stage.script, script)
            self.assertTrue(always(stage.script, facts, guard))
            self.assertEqual(stage.heights(each)[part], run.height("last", part))

    def test_checker(self):
        random = Random(5)
        for _ in range(40):
            script, facts, _ = self.drawn(random)
            wish = drawn_wish(random, script, 2, 3)
            told = forms_told(script, facts, wish)
            first, second = certify_always(script, facts, wish), certify_ever(script, facts, wish)
            self.assertEqual(first[0], ("always" if always(script, facts, wish) else "breach", *told))
            self.assertEqual(second[0], ("ever" if ever(script, facts, wish) else "never", *told))
            for claim, certificate in (first, second):
                self.assertIs(holds_claim(claim, certificate), True)
                self.assertIs(holds_claim(certificate, claim), False)
            self.assertIs(holds_claim(first[0], second[1]) and first[0][0] != second[0][0], False)


class PassedOnTest(WholeCase):

    def test_lengths(self):
        """Lengths that one module tells are lengths for all others."""
        random = Random(6)
        for _ in range(40):
            script, facts, _ = self.drawn(random)
            level, wish = drawn_level(random, script), drawn_wish(random, script)
            told = [facts.some(), at_least(script, facts, level), at_greatest(script, facts, level), breach(script, facts, wish),
                    pieces(script, facts)[0].some(), Seen(script, facts).some()]
            _, certificate = certify_ever(script, facts, wish)
            if certificate and certificate[0][0] in facts.names:
                told.append({name: Ratio(top, bottom) for name, top, bottom in certificate})
            for lengths in told:
                if lengths is not None:
                    run = script.run(lengths)
                    self.assertEqual(run.lengths, lengths)
                    self.assertTrue(facts.keeps(run.lengths))
                    hooks = {hook: run.hook("last", hook) for hook in script.puppet.hooks}
                    heights = script.puppet.heights(hooks, run.lengths)
                    self.assertEqual(heights, Stage(script.puppet, facts, script.start).heights(lengths) if not script.moves
                                     else {part: run.height("last", part) for part in script.puppet.parts})
                    line = " ".join(["heights", *[f"{name} {length}" for name, length in sorted(lengths.items())]])
                    self.assertEqual(Console(script, facts).say(line), " ".join(f"{part} {heights[part]}" for part in heights))
                    sights = tuple((len(script), part, height) for part, height in heights.items())
                    self.assertIs(Seen(script, facts, sights).fits(), True)

    def test_heights_and_texts(self):
        random = Random(7)
        for _ in range(40):
            script, facts, _ = self.drawn(random)
            wish = drawn_wish(random, script)
            part, moment = random.choice(script.puppet.parts), random.randint(0, len(script))
            high = greatest(script, facts, ("part", part, moment))
            if high is not None:
                # A Ratio is a height that was seen; as a form it is a pair, and its text is read again.
                self.assertIs(Seen(script, facts, ((moment, part, high),)).fits(), True)
                surplus = high.top if high.bottom == 1 else (high.top, high.bottom)
                below = Wish(("not", ("over", ("part", part, moment), ("floor",), surplus)))
                self.assertIs(always(script, facts, below), False)
                self.assertEqual(Ratio.read(Console(script, facts).say(f"greatest {part}@{moment}")), high)
                self.assertEqual(Wish.read(str(below)), below)
            self.assertEqual(Console(script, facts).say(f"always {wish}"), "yes" if always(script, facts, wish) else "no")

    def test_forms_of_pieces(self):
        random = Random(8)
        for _ in range(30):
            script, facts, _ = self.drawn(random, 2, 1)
            for piece in pieces(script, facts)[:5]:
                if len(facts) + len(piece.conditions) <= 8:
                    inside = Facts(facts.names, facts.forms + piece.conditions)
                    moment, part = random.randint(0, len(script)), random.choice(script.puppet.parts)
                    form = piece.height(moment, part)
                    self.assertEqual(inside.greatest(form), greatest(script, inside, ("part", part, moment)))
                    self.assertTrue(inside.follows(form))
                    self.assertIsNotNone(inside.weighing(form))

    def test_strings_that_are_left_out(self):
        random = Random(9)
        some = 0
        for _ in range(60):
            script, facts, lengths = self.drawn(random)
            wish = drawn_wish(random, script, 1, 2)
            for name in idle(script, facts):
                script.puppet.without(name)
            for names in least_sets(script, facts, wish):
                puppet = script.puppet.without("".join(sorted({*facts.names} - {*names})))
                self.assertEqual(puppet.names, names)
                other = Script(puppet, script.start, script.moves)
                # Without the lengths that are not there the wish may not be over the script.
                if wish.is_over(other):
                    some += 1
                    for each in lengths.some(random, 3)[:5]:
                        self.assertTrue(wish.holds(other.run({name: each[name] for name in names})))
        self.assertGreater(some, 30)

    def test_weights_of_contradictions(self):
        """What shows that no lengths keep facts is a certificate for whatever is claimed with them."""
        random = Random(10)
        found = 0
        while found < 30:
            script, facts, _ = self.drawn(random)
            form = drawn_form(random, facts.names)
            if len(facts) == 8:
                continue
            try:
                facts.with_fact(form)
            except Contradictory as error:
                found += 1
                told = forms_told(script, facts, drawn_wish(random, script))
                forms = (facts.names, (*told[1][1], (form.constant, form.terms)))
                for word in ("always", "never"):
                    self.assertIs(holds_claim((word, told[0], forms, told[2]), ("none", error.weights)), True)
                    self.assertIs(holds_claim((word, *told), ("none", error.weights)), False)

    def test_what_is_refused(self):
        random = Random(11)
        found = 0
        while found < 20:
            script, facts, _ = self.drawn(random)
            stage = Stage(script.puppet, facts, script.start)
            part = random.choice(script.puppet.parts)
            low = least(stage.script, facts, ("part", part, "last"))
            guard = Wish(("over", ("part", part, "last"), ("floor",), low.top // low.bottom))
            stage = Stage(script.puppet, facts, script.start, (guard,))
            try:
                stage.do_all(script.moves)
            except Refused as error:
                found += 1
                index = [each is error.move for each in script.moves].index(True)
                run = Script(script.puppet, script.start, script.moves[:index + 1]).run(error.shown)
                self.assertFalse(guard.holds(run))
                self.assertEqual(len(stage), 0)
            else:
                self.assertEqual(attempt(stage, lambda there: there.script), script)

    def test_scripts_and_facts(self):
        random = Random(12)
        for _ in range(40):
            script, facts, _ = self.drawn(random)
            other = Script(script.puppet, script.start, script.moves[:-1])
            part = random.choice(script.puppet.parts)
            apart = parting(script, other, facts)
            self.assertIs(alike(script, other, facts), apart is None)
            gap = most_above(script, other, facts, part)
            if apart is None:
                self.assertEqual(gap, 0)
            else:
                self.assertTrue(facts.keeps(apart[0]))
            wish = Wish(("over", ("part", part, "last"), ("floor",), 0))
            for index in range(len(facts)):
                self.assertIsNone(tolerance(script, facts, index, wish))
                self.assertEqual(facts.without_fact(index).with_fact(facts.forms[index]).names, facts.names)


class SameAnswersTest(WholeCase):

    def test_asked_again(self):
        random = Random(13)
        for _ in range(15):
            script, facts, _ = self.drawn(random)
            level, wish = drawn_level(random, script), drawn_wish(random, script)
            seen = Seen(script, facts)
            copies = Script(script.puppet, script.start, script.moves), Facts(facts.names, facts.forms), Wish(wish.form)
            for ask in [lambda: greatest(script, facts, level), lambda: least(script, facts, level), lambda: always(script, facts, wish),
                        lambda: idle(script, facts), lambda: least_sets(script, facts, wish), lambda: seen.sure(level),
                        lambda: seen.ever(wish), lambda: Console(script, facts).say(f"ever {wish}"),
                        lambda: certify_always(script, facts, wish)[0], lambda: str(wish)]:
                self.assertEqual(ask(), ask())
            # Nothing that was passed is another one now.
            self.assertEqual((script, facts, wish), copies)

    def test_a_limit_is_told(self):
        script = Script(drawn_puppet(Random(14), 1, 1, 1), {"A": 3})
        hook, part = script.puppet.hooks, script.puppet.parts[0]
        with self.assertRaises(SizeError) as caught:
            Stage(script.puppet, Facts(script.puppet.names, (Form(1),)), script.start).do_all((("lift", hook, part),) * 4)
        self.assertEqual(vars(caught.exception), {"limit": 3})
