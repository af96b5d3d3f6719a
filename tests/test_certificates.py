"""Tests of slackstrings.certificates, whose certificates are read by the checker and by the tests themselves."""

from random import Random

from slackstrings.always import always, ever
from slackstrings.certificates import certify_always, certify_ever
from slackstrings.checker import holds_claim
from slackstrings.errors import InvalidWish, NotAScript, NotAWish, NotFacts, OtherNames
from slackstrings.facts import Facts
from slackstrings.forms import Form
from slackstrings.puppets import Puppet
from slackstrings.ratios import Ratio
from slackstrings.samples import stick_man, two_lines
from slackstrings.scripts import Script
from slackstrings.seen import Seen
from slackstrings.wishes import Wish
from tests.cases import ErrorCase, drawn_facts, drawn_puppet, drawn_script, drawn_wish
from tests.papers import leaves, replaced, shows_lengths, shows_paper
from tests.values import LONG, strange

MAN = Script(stick_man(), {"B": 20, "F": 20, "H": 20}, (("lift", "F", "foot"), ("move", "F", 5)))
MAN_FACTS = Facts("abc", (Form(15, (("a", -1),)),))
LINES = Script(two_lines(), {"A": 10, "B": 10})
FREE = Facts("ab")


def form_of_script(script):
    """The form of a script, put together by hand."""
    puppet = script.puppet
    start = tuple(sorted(script.start.items()))
    return ((puppet.parts, puppet.ties, puppet.hooks, puppet.strings), start, script.moves)


def form_of_facts(facts):
    return (facts.names, tuple((form.constant, form.terms) for form in facts.forms))


class CertifyCase(ErrorCase):

    def assert_certified(self, script, facts, wish, act, words):
        """A pair of a claim that tells what was passed, and a certificate that is accepted; the word that it has."""
        found = act(script, facts, wish)
        self.assertIs(type(found), tuple)
        claim, certificate = found
        self.assertIs(type(claim), tuple)
        self.assertEqual(claim[1:], (form_of_script(script), form_of_facts(facts), wish.form))
        self.assertIn(claim[0], words)
        self.assertIs(holds_claim(claim, certificate), True)
        if claim[0] in ("always", "never"):
            self.assertTrue(shows_paper(claim, certificate))
        else:
            self.assertTrue(shows_lengths(claim, certificate, script, wish))
        return claim, certificate

    def assert_both(self, script, facts, wish):
        """Both certificates are right, and claim what is so."""
        first, certificate = self.assert_certified(script, facts, wish, certify_always, ("always", "breach"))
        self.assertEqual(first[0], "always" if always(script, facts, wish) else "breach")
        second, other = self.assert_certified(script, facts, wish, certify_ever, ("ever", "never"))
        self.assertEqual(second[0], "ever" if ever(script, facts, wish) else "never")
        return (first, certificate), (second, other)

    def drawn(self, random, strings=3, hauls=2):
        script = drawn_script(random, drawn_puppet(random, 3, strings, 3), 4, hauls)
        return script, drawn_facts(random, script.puppet.names)


class DrawnTest(CertifyCase):

    def test_drawn_wishes(self):
        random = Random(1)
        many = {}
        kinds = {}
        for _ in range(90):
            script, facts = self.drawn(random)
            for _ in range(2):
                for claim, _ in self.assert_both(script, facts, drawn_wish(random, script, 3, 4)):
                    many[claim[0]] = many.get(claim[0], 0) + 1
                    for move in script.moves:
                        kinds[claim[0], move[0]] = kinds.get((claim[0], move[0]), 0) + 1
        self.assertGreater(min(many.values()), 25, many)
        self.assertEqual(len(kinds), 16)
        self.assertGreater(min(kinds.values()), 5, kinds)

    def test_three_hauls(self):
        random = Random(2)
        for kind in ("lift", "ease", "hold"):
            told = (7,) if kind == "hold" else ()
            for _ in range(4):
                puppet = drawn_puppet(random, 2, 3, 2)
                ways = [(hook, part) for hook in puppet.hooks for part in puppet.parts if puppet.has_way(hook, part)]
                moves = tuple((kind, *random.choice(ways), *told) for _ in range(3))
                script = Script(puppet, {hook: random.randint(0, 20) for hook in puppet.hooks}, moves)
                facts = drawn_facts(random, puppet.names)
                self.assert_both(script, facts, drawn_wish(random, script, 2, 2))

    def test_something_exchanged(self):
        random = Random(3)
        spoilt = {}
        while min(spoilt.get(word, 0) for word in ("always", "never", "ever", "breach")) < 60:
            script, facts = self.drawn(random, 2, 1)
            wish = drawn_wish(random, script, 2, 2)
            for act in (certify_always, certify_ever):
                claim, certificate = act(script, facts, wish)
                self.spoil(random, claim, certificate, script, wish, spoilt)

    def spoil(self, random, claim, certificate, script, wish, spoilt):
        """Something of the certificate is exchanged: it is accepted only if it is right all the same."""
        numbers = [(path, value) for path, value in leaves(certificate) if type(value) is int]
        papers = [path for path, value in leaves(certificate)
                  if isinstance(value, tuple) and value and value[0] in ("none", "most", "look", "end")]
        for _ in range(4):
            if numbers and random.random() < 0.6:
                path, number = random.choice(numbers)
                other = replaced(certificate, path, number + random.choice((-1, 1, 2, -number, 10)))
            elif papers:
                path = random.choice(papers)
                other = replaced(certificate, path, random.choice((("end",), ("none", (0,) * 9), *[
                    dict(leaves(certificate))[each] for each in papers[:20]])))
            else:
                other = certificate[::-1]
            if other == certificate:
                continue
            if claim[0] in ("always", "never"):
                expected = shows_paper(claim, other)
            else:
                expected = shows_lengths(claim, other, script, wish)
            self.assertIs(holds_claim(claim, other), expected)
            spoilt[claim[0]] = spoilt.get(claim[0], 0) + (not expected)

    def test_other_claims_with_the_certificate(self):
        # Where another claim is accepted with a certificate, that claim is true as well.
        random = Random(4)
        accepted = refused = 0
        for _ in range(60):
            script, facts = self.drawn(random, 2, 1)
            wish = drawn_wish(random, script, 2, 2)
            for act in (certify_always, certify_ever):
                claim, certificate = act(script, facts, wish)
                for word in ("always", "never", "ever", "breach"):
                    other_wish = random.choice((wish, drawn_wish(random, script, 1, 2), wish.denied()))
                    other = (word, *claim[1:3], other_wish.form)
                    if not holds_claim(other, certificate):
                        refused += 1
                        continue
                    accepted += 1
                    truth = {"always": lambda: always(script, facts, other_wish),
                             "never": lambda: not ever(script, facts, other_wish),
                             "ever": lambda: ever(script, facts, other_wish),
                             "breach": lambda: not always(script, facts, other_wish)}[word]
                    self.assertTrue(truth())
        self.assertGreater(min(accepted, refused), 50)


class ToldTest(CertifyCase):

    def test_the_document(self):
        five_up = Wish.read("(and (over foot@last foot@0 5) (over foot@0 foot@last -5))")
        (claim, _), (other, _) = self.assert_both(MAN, MAN_FACTS, five_up)
        self.assertEqual([claim[0], other[0]], ["always", "ever"])
        (claim, certificate), _ = self.assert_both(MAN, MAN_FACTS, Wish.read("(over body@0 floor 11/2)"))
        self.assertEqual(claim[0], "breach")
        self.assertEqual([name for name, _, _ in certificate], ["a", "b", "c"])
        name, top, bottom = certificate[0]
        self.assertGreater(2 * top, 29 * bottom)

    def test_edges(self):
        rows = [("(over load@0 floor 0)", "always", "ever"), ("(over load@0 floor 1/9)", "breach", "ever"),
                ("(over floor load@0 -10)", "always", "ever"), ("(over load@0 floor 10)", "breach", "ever"),
                ("(over load@0 floor 101/10)", "breach", "never"), ("(not (over load@0 floor 0))", "breach", "never"),
                ("(over a a 0)", "always", "ever"), ("(over floor floor 1)", "breach", "never"),
                ("(or (over a b 0) (over b a 0))", "always", "ever"),
                ("(and (not (over a b 0)) (not (over b a 0)))", "breach", "never"),
                ("(if (over load@0 floor 5) (or (over floor a -5) (over floor b -5)))", "always", "ever"),
                ("(or (over a b 0) (over b a 1/1000))", "breach", "ever"),
                ("(and (over floor a -1/3) (over a floor 1/3) (over load@0 floor 29/3))", "breach", "ever")]
        for text, first, second in rows:
            found = self.assert_both(LINES, FREE, Wish.read(text))
            self.assertEqual([claim[0] for claim, _ in found], [first, second], text)

    def test_long_numbers(self):
        facts = Facts("ab", (Form(LONG, (("a", -7 * LONG),)),))
        self.assert_both(LINES, facts, Wish.read("(over load@0 floor 69/7)"))
        self.assert_both(LINES, facts, Wish(("over", ("part", "load", 0), ("floor",), (69 * LONG + 1, 7 * LONG))))

    def test_facts_of_one_point(self):
        point = Facts("ab", (Form(5, (("a", -1),)), Form(-5, (("a", 1),)), Form(7, (("b", -1),)), Form(-7, (("b", 1),))))
        script = Script(two_lines(), {"A": 10, "B": 10}, (("ease", "A", "load"), ("hold", "B", "load", 4)))
        for text in ("(over load@2 floor 4)", "(over load@0 load@2 1)", "(not (over load@0 floor 5))", "(over A@1 floor 8)"):
            self.assert_both(script, point, Wish.read(text))

    def test_many_overs(self):
        overs = [("over", ("part", "foot", moment), ("part", "body", moment), -6) for moment in (0, 1, 2)]
        overs += [("over", ("part", "hand", moment), ("part", "body", moment), -4) for moment in (0, 2)]
        self.assert_both(MAN, Facts("abc"), Wish(("and", *overs)))
        same = ("over", ("part", "load", 0), ("length", "a"), 0)
        self.assert_both(LINES, FREE, Wish(("or", same, ("not", same))))
        self.assert_both(LINES, FREE, Wish(("and", same, ("not", same))))

    def test_by_name(self):
        wish = Wish.read("(over load@0 floor 0)")
        for act in (certify_always, certify_ever):
            self.assertEqual(act(wish=wish, facts=FREE, script=LINES), act(LINES, FREE, wish))

    def test_what_is_told_back(self):
        puppet = Puppet(("hand", "foot"), (("foot", "hand", 3),), "BX", (("b", "X", "foot"), ("d", "B", "hand")))
        script = Script(puppet, {"X": -7, "B": 9}, (("lift", "B", "foot"), ("move", "BX", 2)))
        facts = Facts("bd", (Form(4, (("b", -1), ("d", 2))),))
        claim, _ = certify_always(script, facts, Wish.read("(over hand@last floor 1/2)"))
        self.assertEqual(claim[1], ((("hand", "foot"), (("foot", "hand", 3),), "BX", (("b", "X", "foot"), ("d", "B", "hand"))),
                                    (("B", 9), ("X", -7)), (("lift", "B", "foot"), ("move", "BX", 2))))
        self.assertEqual(claim[2], ("bd", ((4, (("b", -1), ("d", 2))),)))
        self.assertEqual(claim[3], ("over", ("part", "hand", "last"), ("floor",), (1, 2)))


class ErrorsTest(CertifyCase):

    def test_errors_in_their_order(self):
        foreign, late = Wish.read("(over foot@0 floor 0)"), Wish.read("(over load@1 floor 0)")
        for act in (certify_always, certify_ever):
            for value in [*strange(), two_lines(), FREE, Script, Seen(LINES, FREE)]:
                self.assert_refused(NotAScript, value, act, value, None, None)
                self.assert_refused(NotAScript, value, act, wish=None, facts=FREE, script=value)
            for value in [*strange(), LINES, "ab", Facts]:
                self.assert_refused(NotFacts, value, act, LINES, value, None)
            for facts in (Facts("a"), Facts("ac"), Facts("abc")):
                self.assert_refused(OtherNames, facts.names, act, LINES, facts, None)
            for wish in [*strange(), foreign.form, str(foreign), Wish]:
                self.assert_refused(NotAWish, wish, act, LINES, FREE, wish)
            for wish in (foreign, late, Wish.read("(over c floor 0)")):
                self.assert_refused(InvalidWish, wish.form, act, LINES, FREE, wish)
                self.assert_refused(InvalidWish, wish.form, act, wish=wish, facts=FREE, script=LINES)

    def test_ratios_in_lowest_terms(self):
        facts = Facts("ab", (Form(-1, (("a", 3),)), Form(1, (("a", -3),)), Form(-5, (("b", 2),)), Form(5, (("b", -2),))))
        claim, certificate = certify_ever(LINES, facts, Wish.read("(over load@0 floor 0)"))
        self.assertEqual([claim[0], certificate], ["ever", (("a", 1, 3), ("b", 5, 2))])
        self.assertEqual([Ratio(top, bottom).bottom for _, top, bottom in certificate], [3, 2])
