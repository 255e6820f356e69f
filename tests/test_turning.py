"""Points 3 and 39: at which shares of all members, asked by a condition, wishes are broken."""

import inspect
import random
import unittest
from fractions import Fraction

from manyvoices import turning as turning_file
from manyvoices.errors import BadIndex, BadWish, NoRule
from manyvoices.forms import above, at, at_least, begun, bound, heard, members
from manyvoices.intervals import joined
from manyvoices.protocols import Rule, Scheme
from manyvoices.turning import turning
from manyvoices.wishes import broken
from tests import made, oracle
from tests.examples import any_objects, ballot, echo
from tests.test_shares import is_in
from tests.test_wishes import FOUR, SOUND, raised

ALL = [((0, 1), True, (1, 1), True)]


def at_share(protocol, name, index, share):
    """The protocol in which a condition asks for a share of all members, by the words of point 39."""
    rule = protocol.rule(name)
    sorts, k, _, b, d = oracle.parts(rule.when[index])
    p, q = share.numerator, share.denominator
    compare = above if d == 1 else at_least
    when = list(rule.when)
    when[index] = compare(q * k * heard(*sorts), p * members() + q * b * bound())
    changed = Rule(rule.name, rule.start, rule.end, when, rule.says)
    return protocol.but(rules=[changed if other.name == name else other for other in protocol.rules()])


def strict_echo():
    """The echo whose last rule waits for all members."""
    rules = [*echo().rules()[:2], Rule("end", "sent", "done", [at_least(heard("echo"), members())])]
    return echo(promise=[above(members(), 3 * bound())]).but(rules=rules)


class Turning(unittest.TestCase):
    def look(self, protocol, name, index, wishes):
        """Looks at the shares that are told, and returns them."""
        told = turning(protocol, name, index, wishes)
        self.check_kinds(told)
        probes = {Fraction(0), Fraction(1), Fraction(1, 2), Fraction(1, 3), Fraction(2, 3)}
        for low, _, high, _ in told:
            low, high = Fraction(*low), Fraction(*high)
            probes |= {low, high, (low + high) / 2, low - Fraction(1, 999), high + Fraction(1, 999)}
        ends = sorted(Fraction(*end) for told_one in told for end in (told_one[0], told_one[2]))
        probes |= {(one + other) / 2 for one, other in zip(ends, ends[1:])}
        for share in sorted(probes):
            if 0 <= share <= 1:
                is_broken = broken(at_share(protocol, name, index, share), wishes) != []
                self.assertEqual(is_broken, is_in(share, told), (share, told))
        if all(word == "never" for word, _ in wishes) and told:
            # a higher threshold makes none of these broken
            self.assertEqual(len(told), 1)
            self.assertEqual(told[0][:2], ((0, 1), True))
        return told

    def check_kinds(self, told):
        self.assertIs(type(told), list)
        for interval in told:
            low, is_low, high, is_high = interval
            self.assertEqual([type(part) for part in (interval, low, high)], [tuple] * 3)
            self.assertEqual([type(part) for part in (*low, is_low, *high, is_high)], [int, int, bool] * 2)
            for end in (low, high):
                self.assertEqual((Fraction(*end).numerator, Fraction(*end).denominator), end)
                self.assertTrue(0 <= Fraction(*end) <= 1)
        self.assertEqual(joined(told), told)

    def test_the_example(self):
        wish = ("calm", [at_least(at("done"), 1), at_least(at("old") + at("news") + at("sent"), 1)])
        told = self.look(strict_echo(), "end", 0, [wish])
        self.assertEqual(told, [((0, 1), True, (2, 3), False), ((2, 3), False, (1, 1), True)])
        # what the condition asks as it stands does not matter, but for b and d
        for asked in (at_least(heard("echo"), 0 * members()), at_least(heard("echo"), 3 * members())):
            rules = [*echo().rules()[:2], Rule("end", "sent", "done", [asked])]
            self.assertEqual(turning(strict_echo().but(rules=rules), "end", 0, [wish]), told)

    def test_the_echo(self):
        safe = echo(promise=[above(members(), 3 * bound())])
        for faults in made.FAULTS:
            protocol = safe.but(faults=faults)
            for name in ("join", "end"):
                for wish in FOUR:
                    self.look(protocol, name, 0, [wish])
                self.look(protocol, name, 0, FOUR)
                self.look(protocol.but(promise=[]), name, 0, FOUR[:2])
        # who joins hears more than t, and a share of all members above it
        self.assertEqual(turning(echo(), "join", 0, [SOUND]), [])
        # without more than t a third of the members can be lied to, and more where more lie
        self.assertEqual(turning(safe.but(rules=self.bare_rules()), "join", 0, [SOUND]), [((0, 1), True, (1, 3), False)])

    def bare_rules(self):
        tell, _, end = echo().rules()
        return [tell, Rule("join", "old", "sent", [at_least(heard("echo"), members())], ["echo"]), end]

    def test_shares_of_thresholds_with_d(self):
        # at least half, or above it: one half of the members says so
        halves = [at_least(2 * said_by, members()) for said_by in (begun("a"), begun("b"))]
        for compare, is_high in ((at_least, True), (above, False)):
            rules = [Rule("say", "a", "b", [], ["x"]), Rule("go", "b", "c", [compare(heard("x"), members())])]
            protocol = Scheme(["a", "b", "c"], ["a", "b"], rules, faults="silent")
            told = self.look(protocol, "go", 0, [("never", [at_least(at("c"), 1), *halves])])
            self.assertEqual(told, [((0, 1), True, (1, 2), is_high)])

    def test_times_and_bound_stay(self):
        # 2 * heard is held against the share, and less t stays
        rules = [Rule("say", "a", "b", [], ["x"]), Rule("go", "b", "c", [at_least(2 * heard("x"), members())])]
        protocol = Scheme(["a", "b", "c"], ["a", "b"], rules, promise=[at_least(0, bound())])
        half = [at_least(at("c"), 1), at_least(members(), 4 * begun("a"))]
        self.assertEqual(self.look(protocol, "go", 0, [("never", half)]), [((0, 1), True, (1, 2), True)])
        rules[1] = Rule("go", "b", "c", [at_least(heard("x"), 2 * members() - 2 * bound())])
        promise = [at_least(members(), 4 * bound()), at_least(4 * bound(), members())]
        protocol = Scheme(["a", "b", "c"], ["a", "b"], rules, promise=promise, faults="silent")
        self.assertEqual(self.look(protocol, "go", 0, [("never", half)]), [((0, 1), True, (3, 4), True)])

    def test_only_this_condition_is_exchanged(self):
        asked = at_least(heard("x"), members())
        rules = [
            Rule("say", "a", "b", [], ["x"]),
            Rule("go", "b", "c", [asked, asked]),
            Rule("other", "b", "d", [asked]),
        ]
        protocol = Scheme(["a", "b", "c", "d"], ["a", "b"], rules, faults="silent")
        some = [at_least(begun("b"), 1)]
        self.assertEqual(self.look(protocol, "go", 0, [("never", [at_least(at("c"), 1), *some])]), [])
        self.assertEqual(self.look(protocol, "go", 1, [("never", [at_least(at("c"), 1), *some])]), [])
        self.assertEqual(self.look(protocol, "other", 0, [("never", [at_least(at("c"), 1), *some])]), [])
        told = self.look(protocol, "other", 0, [("never", [at_least(at("d"), 1), *some])])
        self.assertEqual(told, [((0, 1), True, (1, 1), False)])

    def test_no_wishes_and_no_numbers(self):
        self.assertEqual(turning(echo(), "join", 0, []), [])
        self.assertEqual(turning(echo(), "join", 0, ()), [])
        never = echo(promise=[above(bound(), members())])
        self.assertEqual(turning(never, "join", 0, [("never", []), ("calm", [])]), [])
        self.assertEqual(turning(echo(), "join", 0, [("never", [])]), ALL)
        self.assertEqual(turning(echo(), "end", 0, [SOUND, ["calm", ()]]), ALL)

    def test_made_up(self):
        source = random.Random(94)
        kinds = set()
        for number in range(150):
            if number % 2:
                protocol = made.vote(source)
                wishes = made.vote_wishes(source)[: source.randint(1, 4)]
            else:
                rules = source.randint(2, 5)
                protocol = made.protocol(source, places=source.randint(2, 5), rules=rules, conditions=3)
                wishes = made.wishes(source, protocol, source.randint(1, 3))
            asking = [rule for rule in protocol.rules() if rule.when]
            if asking:
                rule = source.choice(asking)
                kinds.add(str(self.look(protocol, rule.name, source.randrange(len(rule.when)), wishes)))
        self.assertGreater(len(kinds), 6)

    def test_wrong_arguments(self):
        for thing in any_objects():
            raised(self, lambda: turning(echo(), thing, thing, thing), NoRule, "name", thing)
            raised(self, lambda: turning(echo(), "tell", thing, thing), BadIndex, "index", thing)
            if thing != 0 or isinstance(thing, bool):
                raised(self, lambda: turning(echo(), "join", thing, None), BadIndex, "index", thing)
            if not isinstance(thing, (list, tuple)):
                raised(self, lambda: turning(echo(), "join", 0, thing), BadWish, "index", 0)
            raised(self, lambda: turning(echo(), "join", 0, [SOUND, thing]), BadWish, "index", 1)

    def test_calls(self):
        protocol, wishes = echo(), [list(wish) for wish in FOUR]
        first = turning(protocol=protocol, name="end", index=0, wishes=wishes)
        second = turning(protocol, "end", 0, tuple(wishes))
        self.assertEqual(first, second)
        self.assertIsNot(first, second)
        first.append("more")
        self.assertEqual(turning(protocol, "end", 0, wishes), second)
        self.assertEqual((protocol, [len(goal) for _, goal in wishes]), (echo(), [len(goal) for _, goal in FOUR]))
        self.assertEqual(turning(ballot("lying"), "win", 1, []), [])
        self.assertEqual(inspect.getmodule(turning), turning_file)


if __name__ == "__main__":
    unittest.main()
