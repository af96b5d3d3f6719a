"""Tests of slackstrings.consoles."""

from random import Random

from slackstrings.always import always, ever, greatest, least
from slackstrings.consoles import Console
from slackstrings.errors import InvalidLine, NotAScript, NotFacts, OtherNames
from slackstrings.facts import Facts
from slackstrings.forms import Form
from slackstrings.puppets import Puppet
from slackstrings.ratios import Ratio
from slackstrings.samples import stick_man, two_lines
from slackstrings.scripts import Script
from slackstrings.spares import idle
from tests.cases import ErrorCase, Lengths, drawn_facts, drawn_level, drawn_puppet, drawn_script, drawn_wish
from tests.values import strange

MAN = Script(stick_man(), {"B": 20, "F": 20, "H": 20}, (("lift", "F", "foot"), ("move", "F", 5)))
MAN_FACTS = Facts("abc", (Form(15, (("a", -1),)),))
LINES = Script(two_lines(), {"A": 10, "B": 10})
LINE_FACTS = Facts("ab", (Form(4, (("a", -1),)), Form(-5, (("b", 1),))))
FREE = Facts("ab")


def level_text(level):
    """The text of a level, put together by hand."""
    if level[0] == "floor":
        return "floor"
    return level[1] if level[0] == "length" else f"{level[1]}@{level[2]}"


class SayTest(ErrorCase):

    def test_drawn_lines(self):
        random = Random(1)
        answers = set()
        for _ in range(120):
            script = drawn_script(random, drawn_puppet(random, 4, 4, 3), 4, 2)
            facts = drawn_facts(random, script.puppet.names)
            console = Console(script, facts)
            for word, act in (("greatest", greatest), ("least", least)):
                level = drawn_level(random, script)
                found = act(script, facts, level)
                expected = "none" if found is None else str(found)
                self.assertEqual(console.say(f"{word} {level_text(level)}"), expected)
                answers.add(expected.isdigit() or expected)
            for word, act in (("always", always), ("ever", ever)):
                wish = drawn_wish(random, script)
                expected = "yes" if act(script, facts, wish) else "no"
                self.assertEqual(console.say(f"{word} {wish}"), expected)
                answers.add(expected)
            self.assertEqual(console.say("idle"), " ".join(idle(script, facts)) or "none")
            self.assert_heights(random, console, Lengths(facts).drawn(random))
        self.assertLess({"none", "yes", "no", True}, answers)
        self.assertTrue([answer for answer in answers if "/" in str(answer)])

    def assert_heights(self, random, console, lengths):
        """The heights are those of the run, for lengths that keep the facts and for others."""
        script = console.script
        for each in (lengths, {name: Ratio(random.randint(0, 60), random.randint(1, 4)) for name in lengths}):
            run = script.run(each)
            line = " ".join(["heights", *[f"{name} {length}" for name, length in each.items()]])
            told = [f"{part} {run.height('last', part)}" for part in script.puppet.parts]
            self.assertEqual(console.say(line), " ".join(told))

    def test_each_kind_of_line(self):
        rows = [(MAN, MAN_FACTS, [("greatest foot@2", "25"), ("greatest foot@last", "25"), ("least body@0", "5"), ("greatest b", "none"),
                                  ("least b", "0"), ("greatest floor", "0"), ("least floor", "0"), ("greatest F@last", "none"),
                                  ("least F@0", "20"), ("greatest a", "15"), ("always (over body@0 floor 11/2)", "no"),
                                  ("ever (over body@0 floor 11/2)", "yes"), ("always (over body@0 floor 5)", "yes"),
                                  ("ever (not (over body@0 floor 5))", "no"), ("idle", "none"),
                                  ("heights a 12 b 10 c 30", "body 8 hand 10 foot 7"), ("heights a 0 b 0 c 0", "body 20 hand 20 foot 25"),
                                  ("heights a 25/2 b 99 c 100/7", "body 15/2 hand 7/2 foot 75/7")]),
                (LINES, LINE_FACTS, [("idle", "b"), ("greatest load@0", "10"), ("least load@last", "6"), ("heights a 5/2 b 3", "load 15/2"),
                                     ("heights a 99 b 99", "load 0")])]
        for script, facts, lines in rows:
            for line, answer in lines:
                found = Console(script, facts).say(line)
                self.assertIs(type(found), str)
                self.assertEqual(found, answer, line)
                self.assertEqual(Console(facts=facts, script=script).say(line=line), answer)

    def test_fractions(self):
        facts = Facts("ab", (Form(10, (("a", -3),)), Form(-1, (("b", 7),))))
        console = Console(LINES, facts)
        self.assertEqual([console.say(line) for line in ("greatest a", "least load@0", "greatest load@0", "least b")],
                         ["10/3", "20/3", "10", "1/7"])
        self.assertEqual(console.say("always (over load@0 floor 20/3)"), "yes")

    def test_several_idle_strings(self):
        far = Facts("abc", (Form(-21, (("a", 1),)), Form(-21, (("b", 1),)), Form(-21, (("c", 1),))))
        still = Script(stick_man(), {"B": 20, "F": 20, "H": 20})
        self.assertEqual(Console(still, far).say("idle"), "a b c")
        only = Script(Puppet(("load",), (), "A", (("a", "A", "load"),)), {"A": 0})
        self.assertEqual(Console(only, Facts("a")).say("idle"), "none")

    def test_lines_that_are_none(self):
        good = ["greatest foot@2", "least F@0", "greatest a", "greatest floor", "always (over body@0 floor 5)", "idle",
                "ever (and (over a b 0) (not (over H@last c -7/2)))", "heights a 12 b 7/2 c 0"]
        console = Console(MAN, MAN_FACTS)
        for line in good:
            console.say(line)
            spoilt = [f" {line}", f"{line} ", f"{line}\n", f"\t{line}", line.upper(), f"{line} {line}", f"{line} a", f"{line}x", line[1:],
                      line.capitalize(), [line], (line,), line.encode(), f"{line}\u00a0", f"\ufeff{line}", f"say {line}"]
            spoilt += [line[:at] + " " + line[at:] for at, sign in enumerate(line) if sign == " "]
            spoilt += [line[:at] + sign + line[at + 1:] for at, blank in enumerate(line) if blank == " " for sign in "\n\t_\u00a0"]
            for each in spoilt:
                self.assert_refused(InvalidLine, each, console.say, each)
                self.assert_refused(InvalidLine, each, console.say, line=each)

    def test_other_words(self):
        wish, console = "(over body@0 floor 5)", Console(MAN, MAN_FACTS)
        rest = ["", " ", "greatest", "least", "always", "ever", "heights", "idle a", "idle none", "none", "greatest ", "always ", "heights ",
                "most foot@2", "greatest foot@2 foot@1", "greatest load@0", "greatest foot@3", "greatest foot@7", "greatest foot@-1",
                "greatest foot@first", "greatest foot@", "greatest @0", "greatest foot", "greatest foot@0@1", "greatest foot@02", "greatest A@0",
                "greatest BF@0", "greatest B", "greatest d", "greatest ab", "greatest Floor", "greatest floor@0", "greatest a@0",
                "greatest ('floor',)", "greatest foot@\u0662", f"never {wish}", "always over body@0 floor 5", "always (over body@3 floor 5)",
                "always (over load@0 floor 5)", "always (over body@0 floor 10/2)", "always (over body@0 floor 05)", f"always {wish}{wish}",
                "always (over body@0 floor)", "always ()", "always (not (not (not (not (not (over a a 0))))))", "ever (over d a 0)",
                f"always (and {' '.join([wish] * 7)})", "always " + "(" * 1000, "always " + ")" * 1000, "always yes", f"say {wish}",
                "heights a 12 b 7", "heights a 12 b 7 c", "heights a 12 c 7 b 0", "heights b 7 a 12 c 0", "heights a 12 b 7 c 0 d 1", "heights 12 7 0",
                "heights a 12 b 7 c -1", "heights a 12 b 7 c -1/2", "heights a 12 b 14/2 c 0", "heights a 12 b 7/0 c 0", "heights a 12 b 07 c 0",
                "heights a 12 b 7.5 c 0", "heights a 12 b +7 c 0", "heights a 12 b none c 0", "heights a 12 a 12 c 0", "heights A 12 b 7 c 0",
                "heights a 12 b -0 c 0", "heights a=12 b=7 c=0", "heights a 12, b 7, c 0", "heights a 12 b 7 c 1_0", "heights a 12 b 7 c \u0662"]
        for line in [*rest, *strange()]:
            self.assert_refused(InvalidLine, line, console.say, line)

    def test_lines_of_other_scripts(self):
        console = Console(LINES, FREE)
        for line in ("greatest foot@0", "greatest load@1", "greatest c", "greatest C@0", "always (over load@1 floor 0)", "ever (over c a 0)",
                     "heights a 1", "heights a 1 b 2 c 3"):
            self.assert_refused(InvalidLine, line, console.say, line)


class MakingTest(ErrorCase):

    def test_attributes(self):
        console = Console(MAN, MAN_FACTS)
        self.assertIs(console.script, MAN)
        self.assertIs(console.facts, MAN_FACTS)
        self.assertIs(console == console, True)
        self.assertIs(console == Console(MAN, MAN_FACTS), False)
        self.assertIs(console != Console(MAN, MAN_FACTS), True)
        self.assertTrue(console)

    def test_errors_in_their_order(self):
        for value in [*strange(), two_lines(), FREE, Script]:
            self.assert_refused(NotAScript, value, Console, value, None)
            self.assert_refused(NotAScript, value, Console, facts=FREE, script=value)
        for value in [*strange(), LINES, "ab", Facts]:
            self.assert_refused(NotFacts, value, Console, LINES, value)
            self.assert_refused(NotFacts, value, Console, facts=value, script=LINES)
        for facts in (Facts("a"), Facts("ac"), Facts("abc")):
            self.assert_refused(OtherNames, facts.names, Console, LINES, facts)
