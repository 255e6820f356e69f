"""Points 3, 4 and 45 to 49: texts of protocols and of runs."""

import inspect
import random
import unittest

from manyvoices import texts
from manyvoices.errors import BadRun, BadText, NoText
from manyvoices.forms import above, at_least, bound, heard, members
from manyvoices.protocols import Rule, Scheme
from manyvoices.texts import read, run_from, run_text, written
from tests import made, oracle
from tests.examples import any_objects, ballot, echo, same_kinds
from tests.test_wishes import raised

ECHO = """places old news sent done
begins old news
faults lying
rule tell news to sent says echo
rule join old to sent when echo >= t + 1 says echo
rule end sent to done when echo >= n - t"""

BALLOT = """places yea nay wait won lost
begins yea nay
faults silent
promise n - 3 t >= 1
rule vote yea to wait says yes
rule deny nay to wait says no
rule win wait to won when (no + yes) >= n - t and 2 yes >= n + 1 says won
rule lose wait to lost when 2 no >= n + 1"""

HEAD = "places a b c\nbegins a\nfaults lying\n"

RUN = (4, 1, 1, [("old", 2), ("news", 1)], [("go", "tell", 1), ("go", "join", 2)])
RUN_TEXT = "members 4 bound 1 faulty 1\nbegun old 2\nbegun news 1\ngo tell 1\ngo join 2"


def condition(text):
    """The condition that stands so in a text."""
    (rule,) = read(HEAD + "rule go a to b when " + text).rules()
    (asked,) = rule.when
    return asked


def promise(text):
    (promised,) = read(HEAD + "promise " + text).promise()
    return promised


class Case(unittest.TestCase):
    def bad(self, text, line):
        raised(self, lambda: read(text), BadText, "line", line)

    def bad_line(self, line, head=HEAD):
        """Looks whether a line behind others, and ahead of others, may not stand there."""
        number = head.count("\n")
        for tail in ("", "\n", "\nrule last a to c", "\nnothing"):
            self.bad(head + line + tail, number)
        self.bad("\n  \n" + head + line, number + 2)


class Read(Case):
    def test_the_echo_and_the_ballot(self):
        self.assertEqual(read(ECHO), echo())
        self.assertEqual(read(BALLOT), ballot("silent"))
        self.assertEqual(written(echo()), ECHO)
        self.assertEqual(written(ballot("silent")), BALLOT)
        for faults in made.FAULTS:
            self.assertEqual(read(written(echo(faults=faults))), echo(faults=faults))
            self.assertEqual(read(written(ballot(faults))), ballot(faults))

    def test_the_least(self):
        self.assertEqual(read("places a\nbegins a\nfaults silent"), Scheme(["a"], ["a"], [], faults="silent"))
        self.assertEqual(written(Scheme(["a"], ["a"], [])), "places a\nbegins a\nfaults lying")

    def test_blank_lines_and_blanks(self):
        lines = ECHO.split("\n")
        self.assertEqual(read("\n".join(["", "   ", *lines, " ", ""])), echo())
        self.assertEqual(read("\n \n".join(lines)), echo())
        self.assertEqual(read("\n".join("   " + line.replace(" ", "   ") + "  " for line in lines)), echo())
        tight = "rule join old to sent when echo>=t+1says echo"
        self.assertEqual(read(ECHO.replace("rule join old to sent when echo >= t + 1 says echo", tight)), echo())
        self.assertEqual(condition("2yes+2no>n"), above(2 * heard("no", "yes"), members()))
        self.assertEqual(condition("2( yes+no )>=3n-02t"), at_least(2 * heard("no", "yes"), 3 * members() - 2 * bound()))
        self.assertEqual(condition("  2  (  yes  +  no  )  >  n  "), above(2 * heard("no", "yes"), members()))

    def test_comparisons_in_all_ways(self):
        yes, no, both = heard("yes"), heard("no"), heard("no", "yes")
        for text, asked in {
            "yes >= t + 1": above(yes, bound()),
            "yes > t": above(yes, bound()),
            "t < yes": above(yes, bound()),
            "t + 1 <= yes": above(yes, bound()),
            "yes - t > 0": above(yes, bound()),
            "- t + yes >= 1": above(yes, bound()),
            "+ yes >= + t + 1": above(yes, bound()),
            "0 > t - yes": above(yes, bound()),
            "- yes < - t": above(yes, bound()),
            "1 yes > 1 t": above(yes, bound()),
            "0001 yes > 01 t + 000": above(yes, bound()),
            "2 yes > 2 t": above(yes, bound()),
            "2 yes >= 2 t + 1": above(yes, bound()),
            "yes + 5 > t + 5": above(yes, bound()),
            "yes + n > t + n": above(yes, bound()),
            "yes > n + t - n": above(yes, bound()),
            "yes > 2 t - t + 0 n": above(yes, bound()),
            "(yes) > t": above(yes, bound()),
            "1 (yes) > t": above(yes, bound()),
            "2 yes + 2 no > n": above(2 * both, members()),
            "2 (yes + no) > n": above(2 * both, members()),
            "n < 2 (no + yes)": above(2 * both, members()),
            "2 yes > n - 2 no": above(2 * both, members()),
            "2 (yes) + 2 no > n": above(2 * both, members()),
            "2 yes - n > - 2 (no)": above(2 * both, members()),
            "- 2 (yes + no) < - n": above(2 * both, members()),
            "no >= 0": at_least(no, 0),
            "no > 0": at_least(no, 1),
            "2 no > 0": at_least(no, 1),
            "no >= 1 - 1": at_least(no, 0),
            "no >= n - t": at_least(no, members() - bound()),
            "no >= t - n": at_least(no, bound() - members()),
            "6 no >= 4 n + 2 t - 1": at_least(3 * no, 2 * members() + bound()),
            "999999 no >= 999998 n": at_least(999999 * no, 999998 * members()),
            "when > t": above(heard("when"), bound()),
            "rule + to + places > t": above(heard("rule", "to", "places"), bound()),
            "abcdefgh > t": above(heard("abcdefgh"), bound()),
        }.items():
            self.assertEqual(condition(text), asked, text)

    def test_promises(self):
        for text, promised in {
            "n > 3 t": above(members(), 3 * bound()),
            "n - 3 t >= 1": above(members(), 3 * bound()),
            "3 t < n": above(members(), 3 * bound()),
            "3t<=n-1": above(members(), 3 * bound()),
            "- t >= 0": at_least(0, bound()),
            "0 >= t": at_least(0, bound()),
            "n >= n - t": at_least(bound(), 0),
            "2 n >= 4 t + 1": above(members(), 2 * bound()),
        }.items():
            self.assertEqual(promise(text), promised, text)
        text = HEAD + "promise n > t\n\npromise n > t\nrule go a to b"
        self.assertEqual(read(text).promise(), [above(members(), bound())] * 2)

    def test_rules(self):
        text = HEAD + "rule go a to b when x > t and 2 (x + y) > n and z >= 1 says z y x\nrule to b to c says says and when n"
        asks = [above(heard("x"), bound()), above(2 * heard("x", "y"), members()), at_least(heard("z"), 1)]
        rules = [Rule("go", "a", "b", asks, ["x", "y", "z"]), Rule("to", "b", "c", [], ["n", "and", "says", "when"])]
        self.assertEqual(read(text).rules(), rules)
        self.assertEqual(written(read(text)).split("\n")[-1], "rule to b to c says and n says when")
        # words of texts may be names of places and rules
        text = "places to when says rule and n t\nbegins to n\nfaults silent\nrule rule to to when when to > t and and > 0"
        self.assertRaises(BadText, lambda: read(text))
        text = text.replace(" and and > 0", "") + " says says\nrule when n to t\nrule says when to says says to"
        protocol = read(text)
        self.assertEqual([(rule.name, rule.start, rule.end) for rule in protocol.rules()][0], ("rule", "to", "when"))
        self.assertEqual(protocol.rule("rule").when, (above(heard("to"), bound()),))
        self.assertEqual(protocol.rule("rule").says, ("says",))
        self.assertEqual(read(written(protocol)), protocol)

    def test_there_and_back(self):
        source = random.Random(97)
        for number in range(150):
            protocol = made.protocol(
                source, places=source.randint(1, 7), rules=source.randint(0, 8), conditions=source.randint(0, 4)
            )
            text = written(protocol)
            self.check_signs(text)
            self.assertEqual(read(text), protocol)
            self.assertEqual(written(read(text)), text)
            # written otherwise, it says the same
            other = text.replace(">=", "  >=").replace(" + ", "+").replace("\n", " \n   \n")
            self.assertEqual(read(other), protocol)

    def check_signs(self, text):
        self.assertIs(type(text), str)
        for line in text.split("\n"):
            self.assertEqual(line, line.strip(" "))
            self.assertNotEqual(line, "")
            self.assertNotIn("  ", line)
            self.assertNotIn("( ", line)
            self.assertNotIn(" )", line)


class Written(Case):
    def test_conditions(self):
        for asked, text in {
            "yes > t": "yes >= t + 1",
            "yes > 0": "yes >= 1",
            "yes >= 0": "yes >= 0",
            "yes >= n": "yes >= n",
            "yes >= - n": "yes >= - n",
            "yes > - n": "yes >= - n + 1",
            "yes >= - 2 n - t": "yes >= - 2 n - t",
            "yes > 3 n - 2 t": "yes >= 3 n - 2 t + 1",
            "yes > - t + n": "yes >= n - t + 1",
            "7 yes > - 2 t": "7 yes >= - 2 t + 1",
            "3 (yes + no) > 2 n": "3 (no + yes) >= 2 n + 1",
            "yes + no + maybe >= t": "(maybe + no + yes) >= t",
        }.items():
            protocol = read(HEAD + "rule go a to b when " + asked)
            self.assertEqual(written(protocol), HEAD + "rule go a to b when " + text)

    def test_promises(self):
        for promised, text in {
            "n > t": "n - t >= 1",
            "n >= t": "n - t >= 0",
            "t <= 0": "- t >= 0",
            "2 t >= n": "- n + 2 t >= 0",
            "12 n > 5 t": "12 n - 5 t >= 1",
            "n > 0": "n >= 1",
            "0 > n": "- n >= 1",
        }.items():
            self.assertEqual(written(read(HEAD + "promise " + promised)), HEAD + "promise " + text)

    def test_no_text(self):
        for word in ("n", "t", "and", "says"):
            for heard_of in ([word], ["a", word, "z"]):
                rules = [
                    Rule("one", "a", "b", [above(heard("when"), bound())], ["says"]),
                    Rule("two", "a", "b", [above(heard("to"), bound()), above(heard(*heard_of), bound())]),
                    Rule("three", "a", "b", [above(heard("and"), bound())]),
                ]
                protocol = Scheme(["a", "b"], ["a"], rules)
                raised(self, lambda: written(protocol), NoText, "word", word)
        many = Scheme(["a", "b"], ["a"], [Rule("go", "a", "b", [above(heard("t", "says", "n", "and"), bound())])])
        raised(self, lambda: written(many), NoText, "word", "and")
        some = Scheme(["a", "b"], ["a"], [Rule("go", "a", "b", [above(heard("t", "says", "n"), bound())])])
        raised(self, lambda: written(some), NoText, "word", "n")
        said_only = Scheme(["a", "b"], ["a"], [Rule("go", "a", "b", [], ["t", "says", "n", "and"])])
        self.assertEqual(read(written(said_only)), said_only)


class BadTexts(Case):
    def test_any_objects(self):
        for thing in any_objects():
            if not isinstance(thing, str):
                raised(self, lambda: read(thing), BadText, "line", 0)
                raised(self, lambda: run_from(echo(), thing), BadText, "line", 0)

    def test_texts_that_end_too_early(self):
        lines = ECHO.split("\n")
        self.bad("", 1)
        self.bad("   ", 1)
        self.bad("\n", 2)
        self.bad(" \n\n  ", 3)
        for many in (1, 2):
            self.bad("\n".join(lines[:many]), many)
            self.bad("\n".join(lines[:many]) + "\n", many + 1)
            self.bad("\n\n" + "\n".join(lines[:many]) + "\n \n", many + 4)

    def test_order_of_the_lines(self):
        lines = BALLOT.split("\n")
        self.assertEqual(read("\n".join(lines)), ballot("silent"))
        kinds = [line.split(" ")[0] for line in lines]
        for first in range(len(lines)):
            for other in range(first + 1, len(lines)):
                changed = list(lines)
                changed[first], changed[other] = changed[other], changed[first]
                # a rule may stand where the promise stood, but no promise behind it
                if kinds[first] != kinds[other]:
                    self.bad("\n".join(changed), other if kinds[first] == "promise" else first)
        for number in range(3):
            # twice, and not at all
            self.bad("\n".join([*lines[: number + 1], *lines[number:]]), number + 1)
            self.bad("\n".join([*lines[:number], *lines[number + 1 :]]), number)
        self.bad("\n".join([*lines, lines[3]]), len(lines))
        self.bad("\n".join([*lines, "", lines[0]]), len(lines) + 1)

    def test_places_beginnings_faults(self):
        rest = "\nbegins a\nfaults lying"
        for line in [
            "places",
            "places a a",
            "places a b c d e f g h",
            "places a abcdefghi",
            "places a 1",
            "places a,b",
            "places a B",
            "places a b+",
            "place a",
            "placesa",
            "Places a",
            "begins a",
            "places a b \t",
            "\t",
            "places \u00e9",
            "1 places a",
        ]:
            self.bad(line + rest, 0)
            self.bad("\n" + line, 1)
        for line in ["begins", "begins a a", "begins d", "begins a d", "begins a 1", "begin a", "faults lying", "begins a+b"]:
            self.bad("places a b c\n" + line + "\nfaults lying", 1)
            self.bad(" \nplaces a b c\n\n" + line, 3)
        for line in ["faults", "faults lie", "faults lying lying", "faults lying 1", "fault lying", "promise n > t", "faults Lying"]:
            self.bad("places a\nbegins a\n" + line + "\nrule go a to b", 2)
            self.bad("places a\nbegins a\n" + line, 2)

    def test_promises(self):
        for text in [
            "",
            "n",
            "n >",
            "> t",
            "n > t > 1",
            "n >= t + 2",
            "n > t + 1",
            "2 n > 2 t + 3",
            "n > n",
            "0 > 1",
            "t - t >= 0",
            "yes > t",
            "n > yes",
            "n > 0 yes",
            "n > t and n > 0",
            "n > t says x",
            "n = t",
            "n => t",
            "n > = t",
            "n >> t",
            "n == t",
            "n t > 0",
            "n 2 > t",
            "2 2 n > t",
            "n + > t",
            "n - - t > 0",
            "+ + n > t",
            "n > t -",
            "n > (t)",
            "(n) > t",
            "n > ()",
            "and > t",
            "n > says",
            "n * 2 > t",
            "n > t.",
            "n > 1/2 t",
            "N > t",
            "n > \u0663 t",
        ]:
            self.bad_line("promise " + text)
        self.bad_line("promises n > t")
        self.bad_line("promisen > t")
        self.bad_line("n > t")

    def test_conditions(self):
        for text in [
            "",
            "yes",
            "yes >=",
            ">= t",
            "yes >= t + 2",
            "yes > t + 1",
            "yes > t - 2",
            "2 yes > 2 t + 3",
            "yes + yes > t",
            "yes > t - yes",
            "yes + no + yes > n",
            "(yes + yes) > t",
            "2 yes > yes",
            "2 yes + no > n",
            "yes > no",
            "yes - no > n",
            "2 (yes + no) + 3 maybe > n",
            "n > yes",
            "yes < n",
            "- yes > n",
            "n - (yes + no) > 0",
            "0 yes > n",
            "0 (yes + no) > t",
            "n > t",
            "n > 0",
            "1 > 0",
            "yes > t t",
            "yes no > t",
            "yes > t)",
            "(yes > t",
            "() > t",
            "(yes +) > t",
            "(+ yes) > t",
            "(- yes) > t",
            "(yes - no) > t",
            "(yes no) > t",
            "(2 yes + no) > t",
            "(yes + n) > t",
            "(t) > t",
            "(and) > t",
            "((yes)) > t",
            "2 (yes) 3 > t",
            "yes 2 > t",
            "2 + yes + > t",
            "yes > > t",
            "abcdefghi > t",
            "and > t",
            "says > t",
            "yes > t and",
            "and yes > t",
            "yes > t and and no > t",
            "yes > t and says no",
            "yes > t when no > t",
            "yes > t , no > t",
            "yes > t says",
            "yes > t says x x",
            "yes > t says x, y",
            "yes > t says x says x",
            "yes > t says x 1",
            "yes > t says (x)",
            "yes > t says abcdefghi",
            "yes > t and no > n + 2",
            "yes >= 1 says",
        ]:
            self.bad_line("rule go a to b when " + text)

    def test_rules(self):
        for line in [
            "rule",
            "rule go",
            "rule go a",
            "rule go a b",
            "rule go a to",
            "rule go a to b b",
            "rule go a to b to c",
            "rule go a to b 1",
            "rule 1 a to b",
            "rule go d to b",
            "rule go a to d",
            "rule go a to a",
            "rule abcdefghi a to b",
            "rulego a to b",
            "rules go a to b",
            "rule go a to b says",
            "rule go a to b says x when x > t",
            "rule go a to b, says x",
            "rule go a to b when",
            "go a to b",
            "says x",
            "rule go atob",
        ]:
            self.bad_line(line)
        head = HEAD + "rule one a to b says x\n"
        for line in ["rule one b to c", "rule two b to a", "rule two b to c says x", "rule two b to c says y x"]:
            self.bad_line(line, head)
        self.assertEqual(len(read(head + "rule two a to c says x").rules()), 2)

    def test_a_ninth_rule(self):
        head = HEAD + "".join(f"rule r{letter} a to b\n" for letter in "abcdefgh")
        self.assertEqual(len(read(head).rules()), 8)
        self.bad_line("rule ri a to c", head)
        self.bad(head + "\n\nrule ri a to c", 13)

    def test_the_first_of_several(self):
        self.bad("places a a\nbegins b\nfaults x", 0)
        self.bad("places a\nbegins b\nfaults x", 1)
        self.bad("places a\nbegins a\nfaults x\nrule", 2)
        self.bad(HEAD + "rule go a to b\n\nrule go a to b\n?", 5)
        self.bad(HEAD + "\n?\nrule go a to a", 4)


class Runs(Case):
    def bad_run(self, text, line, protocol=None):
        raised(self, lambda: run_from(protocol or echo(), text), BadText, "line", line)

    def test_there_and_back(self):
        self.assertEqual(run_text(echo(), RUN), RUN_TEXT)
        self.assertTrue(same_kinds(run_from(echo(), RUN_TEXT), RUN))
        some = [(protocol, 3) for faults in made.FAULTS for protocol in (echo(faults=faults), ballot(faults))]
        for protocol, most in some:
            for run in list(oracle.runs(protocol, most, 2))[::7]:
                text = run_text(protocol, run)
                self.assertTrue(same_kinds(run_from(protocol, text), run))
                self.assertEqual(len(text.split("\n")), 1 + len(protocol.begins()) + len(run[4]))

    def test_stopping(self):
        protocol = echo(faults="stopping")
        run = (4, 3, 2, [("old", 0), ("news", 4)], [("cut", "tell", 1), ("stop", "news", 1), ("go", "tell", 2)])
        text = "members 4 bound 3 faulty 2\nbegun old 0\nbegun news 4\ncut tell 1\nstop news 1\ngo tell 2"
        self.assertEqual(run_text(protocol, run), text)
        self.assertEqual(run_from(protocol, text), run)

    def test_forty_digits(self):
        great = 10**40 - 1
        run = (great, great, 0, [("old", 0), ("news", great)], [("go", "tell", great)])
        self.assertEqual(run_text(echo(), run).split("\n")[-1], "go tell " + "9" * 40)
        self.assertEqual(run_from(echo(), run_text(echo(), run)), run)

    def test_lists_and_tuples_for_one_another(self):
        run = [4, 1, 1, [["old", 2], ["news", 1]], (["go", "tell", 1], ["go", "join", 2])]
        self.assertEqual(run_text(echo(), run), RUN_TEXT)
        self.assertEqual(run_text(protocol=echo(), run=RUN), RUN_TEXT)
        self.assertEqual(run_from(protocol=echo(), text=RUN_TEXT), RUN)

    def test_no_runs(self):
        for thing in any_objects():
            raised(self, lambda: run_text(echo(), thing), BadRun, "thing", thing)
        for run in [RUN[:4], (*RUN[:4], [("go", "end", 1)]), (4, 1, 1, [("old", 2), ("news", 2)], [])]:
            raised(self, lambda: run_text(echo(), run), BadRun, "thing", run)

    def test_blanks_and_figures(self):
        lines = RUN_TEXT.split("\n")
        self.assertEqual(run_from(echo(), "\n \n".join(["", *lines, ""])), RUN)
        self.assertEqual(run_from(echo(), "\n".join("  " + line.replace(" ", "  ") + " " for line in lines)), RUN)
        self.assertEqual(run_from(echo(), RUN_TEXT.replace("1", "001").replace(" 2", "0002").replace("go", "go ")), RUN)
        self.assertEqual(run_from(echo(), RUN_TEXT.replace(" 4", "4").replace("bound ", "bound")), RUN)

    def test_texts_that_end_too_early(self):
        lines = RUN_TEXT.split("\n")
        self.bad_run("", 1)
        self.bad_run(" \n\n", 3)
        for many in (1, 2):
            self.bad_run("\n".join(lines[:many]), many)
            self.bad_run("\n" + "\n".join(lines[:many]) + "\n  \n", many + 3)
        self.assertEqual(run_from(echo(), "\n".join(lines[:3])), (*RUN[:4], []))

    def test_wrong_numbers(self):
        rest = RUN_TEXT[RUN_TEXT.index("\n") :]
        for line in [
            "members 4 bound 1",
            "members 4 bound 1 faulty",
            "members 4 bound 1 faulty 1 1",
            "members 4 faulty 1 bound 1",
            "members bound 1 faulty 1",
            "member 4 bound 1 faulty 1",
            "members -4 bound 1 faulty 1",
            "members four bound 1 faulty 1",
            "members 4 bound 1 faulty 2",
            "members 4 bound 5 faulty 1",
            "members 1 bound 1 faulty 1",
            "members 4 bound 1 faulty 1.",
            "begun old 2",
            "members (4) bound 1 faulty 1",
        ]:
            self.bad_run(line + rest, 0)
            self.bad_run("\n" + line, 1)
        safe = echo(promise=[above(members(), 4 * bound())])
        self.bad_run(RUN_TEXT, 0, safe)

    def test_wrong_beginnings(self):
        first, old, news, *steps = RUN_TEXT.split("\n")
        for line in ["begun sent 2", "begun news 2", "begun old", "begun 2 old", "begun old -2", "begun old 2 2", "old 2", "go tell 1"]:
            self.bad_run("\n".join([first, line, news, *steps]), 1)
            self.bad_run("\n".join([first, "", line]), 2)
        self.bad_run("\n".join([first, news, old, *steps]), 1)
        self.bad_run("\n".join([first, old, old, news, *steps]), 2)
        self.bad_run("\n".join([first, old, *steps]), 2)
        # that they do not add up is told of the last one
        for many in (0, 2, 100):
            self.bad_run("\n".join([first, old, f"begun news {many}", *steps]), 2)
            self.bad_run("\n".join([first, old, "", f"begun news {many}", "", "nothing"]), 3)
        self.bad_run("\n".join([first, "begun old 100", "", news, *steps]), 3)
        self.bad_run("\n".join([first, "begun old 100"]), 2)
        self.bad_run("\n".join([first, "begun old 100", "begun news", *steps]), 2)

    def test_wrong_steps(self):
        head = "\n".join(RUN_TEXT.split("\n")[:4]) + "\n"
        for line in [
            "go join 3",
            "go join 0",
            "go join",
            "go join 2 2",
            "go join two",
            "join 2",
            "go 2 join",
            "go end 1",
            "go tell 1",
            "go nobody 1",
            "go old 1",
            "cut join 1",
            "stop old 1",
            "take join 1",
            "begun old 2",
            "members 4 bound 1 faulty 1",
            "go join -1",
            "go join 1,",
            "gojoin 1",
        ]:
            self.bad_run(head + line, 4)
            self.bad_run(head + "\n \n" + line + "\ngo join 1", 6)
        self.bad_run(RUN_TEXT + "\ngo join 1", 5)
        stopping = echo(faults="stopping")
        head = "members 4 bound 1 faulty 1\nbegun old 2\nbegun news 2\n"
        for lines, number in {
            "stop old 2": 3,
            "stop sent 1": 3,
            "stop tell 1": 3,
            "cut join 1": 3,
            "cut tell 1\n\nstop old 1": 5,
            "stop old 1\ncut tell 1": 4,
        }.items():
            self.bad_run(head + lines, number, stopping)
        self.assertEqual(run_from(stopping, head + "cut tell 1")[4], [("cut", "tell", 1)])


class Interface(unittest.TestCase):
    def test_names_are_defined_in_this_file(self):
        for function in (read, written, run_text, run_from):
            self.assertEqual(inspect.getmodule(function), texts)
        self.assertEqual(read(text=ECHO), echo())
        self.assertEqual(written(protocol=echo()), ECHO)

    def test_told_lists_are_new(self):
        first, second = run_from(echo(), RUN_TEXT), run_from(echo(), RUN_TEXT)
        first[3].append("more")
        first[4].clear()
        self.assertEqual(second, RUN)


if __name__ == "__main__":
    unittest.main()
