"""Points 24, 25 and 39: shares come to an end, also where an end of an interval is only come near."""

import random
import unittest
from fractions import Fraction

from manyvoices.forms import at, at_least, begun, bound, faulty, heard, members, said
from manyvoices.intervals import joined
from manyvoices.protocols import Rule, Scheme
from manyvoices.questions import Question
from manyvoices.reaching import reach
from manyvoices.shares import borne, shares
from manyvoices.turning import turning
from tests import made
from tests.test_shares import Told, is_in, just
from tests.test_turning import at_share

# more intervals than any of these questions looks at
ENDLESS = 150


class Bounded(Told):
    """Looks at shares, and fails where that does not come to an end."""

    def setUp(self):
        self.turns = 0
        case = Question.case

        def counted(question, crowd):
            self.turns += 1
            self.assertLess(self.turns, ENDLESS)
            return case(question, crowd)

        Question.case = counted
        self.addCleanup(setattr, Question, "case", case)

    def bounded(self, ask):
        """What is told, by however many turns, but not by endlessly many."""
        self.turns = 0
        return ask()


def not_all_lost(faults, promise=()):
    """Nobody wins by what nobody says, and some wait as long as they do not surely hear enough to be lost."""
    rules = [
        Rule("vote", "yea", "wait"),
        Rule("win", "wait", "won", [at_least(2 * heard("won"), members() + bound() + 1)]),
        Rule("lose", "wait", "lost", [at_least(heard("no"), members() - 2 * bound())]),
    ]
    return Scheme(["yea", "wait", "won", "lost"], ["yea"], rules, promise=promise, faults=faults)


class OnlyComeNear(Bounded):
    """Questions that were looked at for ever, or told too much, as somebody went a way that was not open."""

    def test_near_at_both_ends(self):
        protocol = Scheme(
            ["v", "b", "va"],
            ["b", "v"],
            [
                Rule("rc", "v", "b", [], ["yes"]),
                Rule("ra", "b", "va", [at_least(heard("yes"), bound() + 1)], ["no"]),
                Rule("rb", "b", "va", [at_least(heard("no"), members() - 2 * bound())], []),
            ],
            promise=[at_least(members() - bound(), 1), at_least(bound(), 1)],
        )
        goal = [at_least(2 * at("b") - members(), 1)]
        told = self.look(protocol, goal, at("va") - begun("v"), calm=True)
        self.assertEqual(told, [((-1, 2), False, (1, 2), False)])
        self.assertEqual(self.look(protocol, goal, at("va"), calm=True), [((0, 1), True, (1, 2), False)])
        self.assertEqual(self.look(protocol, goal, begun("v"), calm=True), [((0, 1), True, (1, 2), False)])
        self.assertEqual(self.look(protocol, goal, at("b") + at("va"), calm=True)[-1][2:], ((1, 1), True))

    def test_all_but_some_liars_say_so(self):
        # more than 2 t are heard, f of them lie: with one liar there are two that say v, with none there is one
        rules = [
            Rule("ra", "a", "b", [], ["v"]),
            Rule("rc", "a", "b", [at_least(2 * heard("u", "v"), members() + 1)], ["x"]),
            Rule("rd", "a", "d", [at_least(heard("v"), 2 * bound() + 1)], ["w", "x"]),
        ]
        protocol = Scheme(["a", "b", "d"], ["a"], rules)
        self.assertEqual(self.look(protocol, [], said("w") + 3 * said("x")), [((0, 1), True, (4, 1), False)])
        self.assertEqual(self.look(protocol, [], said("w") - said("v")), [((-1, 1), True, (1, 1), False)])

    def test_those_that_are_cut(self):
        # nearly a half are cut in saying u, or a few more, and then the others need not say it
        rules = [
            Rule("ra", "a", "b", [], ["u"]),
            Rule("rc", "a", "b", [at_least(heard("w"), bound() + 1)], ["v", "w"]),
            Rule("rd", "a", "b", [at_least(2 * heard("u"), members() + 1)], ["v"]),
        ]
        protocol = Scheme(["a", "b"], ["a"], rules, faults="stopping")
        told = self.look(protocol, [], 3 * said("v") - said("u") - 2 * said("w"))
        self.assertEqual(told, [((-1, 1), True, (3, 2), False)])
        self.assertEqual(self.look(protocol, [], 3 * said("v") - 2 * said("w")), [((0, 1), True, (3, 2), False)])

    def test_somebody_must_have_begun_elsewhere(self):
        rules = [
            Rule("ra", "b", "e"),
            Rule("rc", "c", "d", [at_least(heard("v"), bound() + 1)]),
            Rule("re", "c", "e", [at_least(heard("v"), members() - bound())]),
        ]
        protocol = Scheme(["b", "c", "d", "e"], ["c", "b"], rules, faults="silent")
        goal = [at_least(begun("b") + 3 * begun("e") - at("d"), 1)]
        self.assertEqual(self.look(protocol, goal, begun("c"), calm=True), [((0, 1), True, (1, 1), False)])
        self.assertEqual(self.look(protocol, goal, begun("c") - begun("b"), calm=True), [((-1, 1), True, (1, 1), False)])

    def test_nobody_wins(self):
        lost = [at_least(members() - faulty() - at("lost"), 1)]
        # without lies none are lost as long as t is less than a half, and then less than a half can stop
        for faults, low in (("lying", (0, 1)), ("stopping", (1, 2)), ("silent", (1, 2))):
            protocol = not_all_lost(faults)
            self.assertEqual(self.look(protocol, [], -at("won"), calm=True), [((0, 1), True, (0, 1), True)])
            self.assertEqual(self.look(protocol, lost, at("wait"), calm=True), [(low, False, (1, 1), True)])
        # a third lies, and so all but one may be lost
        bounded = not_all_lost("lying", [at_least(members(), 3 * bound())])
        self.assertEqual(self.look(bounded, lost, at("lost"), calm=True), [((0, 1), True, (2, 3), False)])

    def test_never_as_many_voices(self):
        rules = [
            Rule("ra", "a", "e", [], ["u", "v"]),
            Rule("re", "c", "e", [at_least(2 * heard("x"), members() + bound() + 1)], ["u"]),
            Rule("rg", "c", "e", [at_least(heard("v", "w"), bound() + 1)]),
        ]
        protocol = Scheme(["a", "c", "e"], ["a", "c"], rules, faults="silent")
        goal = [at_least(said("u"), faulty() + said("x")), at_least(3 * begun("c"), at("e") + 1)]
        # at e stand those that began at a, and if they are more than t, those that began at c
        self.assertEqual(self.look(protocol, goal, said("u"), calm=True), [((0, 1), True, (3, 4), False)])

    def test_borne_by_those_that_say_one_voice(self):
        rules = [
            Rule("ra", "a", "b", [], ["w", "x"]),
            Rule("rb", "a", "c", [at_least(2 * heard("v", "w"), members() + 1)]),
            Rule("rc", "b", "d"),
            Rule("rd", "c", "d", [], ["w"]),
            Rule("re", "d", "e"),
            Rule("rg", "e", "g", [at_least(2 * heard("w", "x"), members() + 1)]),
        ]
        protocol = Scheme(["a", "b", "c", "d", "e", "g"], ["a"], rules, faults="stopping")
        goal = [at_least(members() - faulty() - at(place), 1) for place in ("e", "g")]
        # who rests at e does not surely hear more than a half: nearly all that have not stopped say w alone, which
        # nobody does as long as no more than a half is heard, so more than a half is cut
        told = [((1, 2), False, (1, 1), True)]
        self.assertEqual(self.bounded(lambda: borne(protocol, [("calm", goal)])), told)
        self.assertEqual(self.look(protocol, goal, bound(), calm=True), told)

    def test_borne_whatever_there_is(self):
        quiet = [
            Rule("ra", "a", "b", [], ["u"]),
            Rule("rg", "a", "d", [at_least(2 * heard("u"), members() + bound() + 1)]),
            Rule("rh", "b", "d", [at_least(2 * heard("u"), members() + 1)]),
        ]
        loud = [
            Rule("rb", "a", "b", [], ["w"]),
            Rule("rc", "b", "c", [at_least(2 * heard("u"), members() + bound() + 1)]),
            Rule("rd", "b", "c", [], ["u"]),
            Rule("re", "c", "d", [at_least(heard("u", "w"), 2 * members() - bound())]),
        ]
        for rules, goal in ((quiet, [at_least(at("a") + begun("b"), 1)]), (loud, [])):
            protocol = Scheme(["a", "b", "c", "d"], ["a", "b"], rules, faults="stopping")
            told = self.bounded(lambda: borne(protocol, [("calm", goal)]))
            self.assertEqual(told, [((0, 1), True, (1, 1), True)])


class MadeUp(Bounded):
    def protocol(self, source, number):
        if number % 3 == 0:
            return made.vote(source)
        rules = source.randint(3, 7)
        return made.protocol(source, places=source.randint(2, 5), rules=rules, conditions=3)

    def two_terms(self, source, protocol):
        """A form of two terms."""
        terms = [members(), bound(), faulty(), *[said(sort) for sort in protocol.sorts()]]
        terms += [term(place) for place in protocol.places() for term in (at, begun)]
        one, other = source.sample(terms, 2)
        return source.choice([-2, -1, 1, 2, 3]) * one + source.choice([-2, -1, 1, 2, 3]) * other

    def test_shares(self):
        source = random.Random(1301)
        for number in range(2400):
            protocol = self.protocol(source, number)
            goal, form = made.goal(source, protocol, 3), self.two_terms(source, protocol)
            for calm in (False, True):
                told = self.bounded(lambda: shares(protocol, goal, form, calm=calm))
                self.check_kinds(told)
                if number % 20 == 0:
                    self.look(protocol, goal, form, calm)

    def test_no_shares_between(self):
        source = random.Random(1302)
        many = 0
        for number in range(500):
            protocol = self.protocol(source, number)
            goal, form = made.goal(source, protocol, 3), self.two_terms(source, protocol)
            calm = number % 2 == 1
            told = self.bounded(lambda: shares(protocol, goal, form, calm=calm))
            # at an end that is only come near, and on both sides of it
            for low, is_low, high, is_high in told:
                for end, is_end, inward in ((low, is_low, 1), (high, is_high, -1)):
                    if not is_end:
                        many += 1
                        share = Fraction(*end)
                        wide = Fraction(*high) - Fraction(*low)
                        for probe in (share, share + inward * wide / 10**6, share - inward * Fraction(1, 10**6)):
                            run = reach(protocol, [*goal, *just(form, probe)], calm=calm)
                            self.assertEqual(run is not None, is_in(probe, told))
        self.assertGreater(many, 60)

    def test_borne(self):
        source = random.Random(1303)
        for number in range(1200):
            protocol = self.protocol(source, number)
            usual = made.vote_wishes(source) if number % 3 == 0 else made.wishes(source, protocol, 2)
            told = self.bounded(lambda: borne(protocol, usual))
            self.check_kinds(told)
            free = protocol.but(promise=())
            each = [shares(free, goal, bound(), calm=word == "calm") for word, goal in usual]
            self.assertEqual(told, joined([interval for part in each for interval in part]))

    def test_turning(self):
        source = random.Random(1304)
        looked = 0
        for number in range(500):
            protocol = self.protocol(source, number)
            asking = [rule for rule in protocol.rules() if rule.when]
            if asking:
                rule = source.choice(asking)
                index = source.randrange(len(rule.when))
                usual = made.vote_wishes(source)[:2] if number % 3 == 0 else made.wishes(source, protocol, 2)
                told = self.bounded(lambda: turning(protocol, rule.name, index, usual))
                self.check_kinds(told)
                ends = [Fraction(*end) for low, _, high, _ in told for end in (low, high)]
                for share in ends[: 4 if number % 4 == 0 else 0]:
                    looked += 1
                    changed = at_share(protocol, rule.name, index, share)
                    runs = [reach(changed, goal, calm=word == "calm") for word, goal in usual]
                    self.assertEqual(any(run is not None for run in runs), is_in(share, told))
        self.assertGreater(looked, 60)


if __name__ == "__main__":
    unittest.main()
