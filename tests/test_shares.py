"""Points 3, 24, 25 and 37: shares, and how many faulty ones are borne."""

import inspect
import math
import random
import unittest
from fractions import Fraction

from manyvoices import shares as shares_file
from manyvoices.errors import BadForm, BadGoal, BadWish
from manyvoices.forms import Form, above, at, at_least, begun, bound, faulty, heard, members, said
from manyvoices.intervals import joined
from manyvoices.protocols import Rule, Scheme
from manyvoices.reaching import is_paper, paper, reach
from manyvoices.shares import borne, shares
from tests import made, search
from tests.examples import any_objects, ballot, echo
from tests.test_papers import NOBODY_BEGINS
from tests.test_reaching import SOME_AND_NOT_ALL_END

ALL = [((0, 1), True, (1, 1), True)]


def is_in(share, told):
    """Whether a fraction is one of the intervals."""
    for low, is_low, high, is_high in told:
        low, high = Fraction(*low), Fraction(*high)
        if low < share < high or share == low and is_low or share == high and is_high:
            return True
    return False


def just(form, share):
    """A goal that a form has a share."""
    parted = share.denominator * form - share.numerator * members()
    return [at_least(parted, 0), at_least(0, parted)] if parted.terms() else []


def a_form(source, protocol):
    terms = [members(), bound(), faulty(), *[said(sort) for sort in protocol.sorts()]]
    terms += [term(place) for place in protocol.places() for term in (at, begun)]
    while True:
        form = sum(source.choice([-2, -1, 1, 1, 2, 3]) * source.choice(terms) for _ in range(source.randint(1, 3)))
        if form.terms():
            return form


class Told(unittest.TestCase):
    def look(self, protocol, goal, form, calm=False):
        """Looks at the shares that are told, and returns them."""
        told = shares(protocol, goal, form, calm=calm)
        self.check_kinds(told)
        probes = {Fraction(0), Fraction(1), Fraction(1, 2)}
        for low, _, high, _ in told:
            low, high = Fraction(*low), Fraction(*high)
            probes |= {low, high, (low + high) / 2, low - Fraction(1, 99), high + Fraction(1, 99)}
            probes |= {low + (high - low) / 1000, high - (high - low) / 1000}
        for share in sorted(probes):
            run = reach(protocol, [*goal, *just(form, share)], calm=calm)
            self.assertEqual(run is not None, is_in(share, told) if just(form, share) else bool(told), share)
        if told:
            self.check_high_end(protocol, goal, form, calm, told[-1][2:])
        else:
            self.assertIsNotNone(paper(protocol, goal, calm=calm))
        return told

    def check_high_end(self, protocol, goal, form, calm, end):
        (high, low), is_high = end
        if not (low * form - high * members()).terms():
            return
        more = [*goal, above(low * form, high * members())]
        self.assertTrue(is_paper(protocol, more, paper(protocol, more, calm=calm), calm=calm))
        equal = [*goal, at_least(low * form, high * members())]
        self.assertEqual(paper(protocol, equal, calm=calm) is None, is_high)

    def check_kinds(self, told):
        self.assertIs(type(told), list)
        ends = []
        for interval in told:
            self.assertIs(type(interval), tuple)
            low, is_low, high, is_high = interval
            self.assertEqual([type(part) for part in (low, is_low, high, is_high)], [tuple, bool, tuple, bool])
            for above_part, below in (low, high):
                self.assertEqual([type(above_part), type(below)], [int, int])
                self.assertGreater(below, 0)
                self.assertEqual(math.gcd(above_part, below), 1)
            self.assertTrue(Fraction(*low) < Fraction(*high) or low == high and is_low and is_high)
            ends.append((Fraction(*low), is_low, Fraction(*high), is_high))
        for one, other in zip(ends, ends[1:]):
            self.assertTrue(one[2] < other[0] or one[2] == other[0] and not one[3] and not other[1])


class TheEcho(Told):
    def test_some_end_and_not_all(self):
        told = self.look(echo(), SOME_AND_NOT_ALL_END, bound(), calm=True)
        self.assertEqual(told, [((1, 3), True, (1, 1), True)])

    def test_nobody_ends_if_nobody_has_begun_with_the_news(self):
        self.assertEqual(self.look(echo(), NOBODY_BEGINS, bound()), [])

    def test_all_that_there_is(self):
        self.assertEqual(self.look(echo(), [], bound()), ALL)
        self.assertEqual(self.look(echo(), [], bound(), calm=True), ALL)
        # of the faulty ones there are less than members
        self.assertEqual(self.look(echo(), [], faulty()), [((0, 1), True, (1, 1), False)])
        self.assertEqual(self.look(echo(), [], members()), [((1, 1), True, (1, 1), True)])
        self.assertEqual(self.look(echo(), [], -3 * members()), [((-3, 1), True, (-3, 1), True)])
        self.assertEqual(self.look(echo(), [], at("done") - 2 * at("old")), [((-2, 1), True, (1, 1), True)])
        self.assertEqual(self.look(echo(), [], 6 * bound() - 4 * members()), [((-4, 1), True, (2, 1), True)])

    def test_shares_between_bounds(self):
        goal = [above(7 * bound(), 2 * members()), at_least(5 * members(), 9 * bound())]
        self.assertEqual(self.look(echo(), goal, bound()), [((2, 7), False, (5, 9), True)])
        self.assertEqual(self.look(echo(), goal, 2 * bound() - members()), [((-3, 7), False, (1, 9), True)])
        goal = [at_least(14 * bound(), 4 * members()), at_least(4 * members(), 14 * bound())]
        self.assertEqual(self.look(echo(), goal, bound()), [((2, 7), True, (2, 7), True)])

    def test_who_ends(self):
        # with t of n the voices of n - t are wanted; of n members none but those that tell say one to begin with
        safe = echo(promise=[above(members(), 3 * bound())])
        self.assertEqual(self.look(safe, [at_least(at("done"), 1)], said("echo")), [((1, 3), False, (1, 1), True)])
        self.assertEqual(self.look(safe, [at_least(at("done"), 1)], begun("news")), [((0, 1), False, (1, 1), True)])

    def test_promises_that_no_numbers_keep(self):
        self.assertEqual(self.look(echo(promise=[at_least(0, members())]), [], bound()), [])


class Gaps(Told):
    """A rule that is for a low t, one for a high t, told by conditions on voices that nobody says."""

    def apart(self, low, high, faults="silent"):
        rules = [Rule("low", "a", "b", [low]), Rule("high", "a", "b", [high])]
        return Scheme(["a", "b"], ["a"], rules, faults=faults)

    def test_intervals_apart(self):
        goal = [at_least(at("b"), 1)]
        quiet, least = heard("x"), at_least
        for low, high, told in [
            (
                least(quiet, 4 * bound() - members()),
                least(quiet, members() - 2 * bound()),
                [((0, 1), True, (1, 4), True), ((1, 2), True, (1, 1), True)],
            ),
            (
                above(quiet, 4 * bound() - members()),
                above(quiet, members() - 2 * bound()),
                [((0, 1), True, (1, 4), False), ((1, 2), False, (1, 1), True)],
            ),
            (
                above(quiet, 2 * bound() - members()),
                above(quiet, members() - 2 * bound()),
                [((0, 1), True, (1, 2), False), ((1, 2), False, (1, 1), True)],
            ),
            (least(quiet, 2 * bound() - members()), above(quiet, members() - 2 * bound()), ALL),
            (above(quiet, 2 * bound() - members()), least(quiet, members() - 2 * bound()), ALL),
            (least(quiet, 2 * bound() - members()), least(quiet, members() - 2 * bound()), ALL),
            (least(quiet, 3 * bound() - members()), least(quiet, members() - 4 * bound()), ALL),
            (
                least(quiet, bound()),
                least(quiet, 3 * members() - 3 * bound()),
                [((0, 1), True, (0, 1), True), ((1, 1), True, (1, 1), True)],
            ),
        ]:
            for one, other in ((low, high), (high, low)):
                self.assertEqual(self.look(self.apart(one, other), goal, bound()), told)
                self.assertEqual(borne(self.apart(one, other), [("never", goal)]), told)
            wishes = [("never", [*goal, at_least(at("a"), 1)]), ("calm", goal)]
            self.assertEqual(borne(self.apart(low, high), wishes), told)

    def test_joined(self):
        half, third = (1, 2), (1, 3)
        for told, intervals in [
            ([], []),
            ([(third, True, half, False)], [(third, True, half, False)]),
            (
                [(third, True, half, False), (half, False, (1, 1), False)],
                [(half, False, (1, 1), False), (third, True, half, False)],
            ),
            (
                [(third, True, (1, 1), False)],
                [(half, False, (1, 1), False), (half, True, half, True), (third, True, half, False)],
            ),
            (
                [(third, True, (1, 1), True)],
                [(third, False, (1, 1), False), (third, True, half, True), ((1, 1), True, (1, 1), True)],
            ),
            ([((-1, 2), False, half, True)], [((-1, 2), False, half, False), ((0, 1), True, half, True)]),
            ([((0, 1), False, half, True)], [((0, 1), False, half, True), (third, False, (2, 5), True)]),
            ([((0, 1), False, (1, 1), False)], [((0, 1), False, half, False), ((2, 5), False, (1, 1), False)]),
            ([((0, 1), False, half, False)], [((0, 1), False, half, False), (third, True, (2, 5), True)]),
            ([((0, 1), False, half, True)], [((0, 1), False, half, False), (third, True, half, True)]),
        ]:
            for _ in range(2):
                self.assertEqual(joined(intervals), told)
                intervals = list(reversed(intervals))


class MadeUp(Told):
    def protocol(self, source, calm, most=7):
        return made.protocol(
            source,
            places=source.randint(1, most),
            rules=source.randint(0, 8),
            conditions=source.randint(0, 3 if calm else 4),
        )

    def test_shares(self):
        source = random.Random(41)
        some = 0
        for _ in range(60):
            calm = source.random() < 0.5
            protocol = self.protocol(source, calm)
            some += self.look(protocol, made.goal(source, protocol, 2), a_form(source, protocol), calm) not in ([], ALL)
        for _ in range(30):
            protocol = made.vote(source)
            for word, goal in made.vote_wishes(source)[:2]:
                some += self.look(protocol, goal, source.choice([bound(), faulty()]), word == "calm") not in ([], ALL)
        self.assertGreater(some, 50)

    def test_small_standings(self):
        source = random.Random(42)
        for _ in range(25):
            protocol = self.protocol(source, True, 5)
            small = search.Small(protocol, 3)
            for _ in range(4):
                goal, form = made.goal(source, protocol, 2), a_form(source, protocol)
                for calm in (False, True):
                    told = shares(protocol, goal, form, calm=calm)
                    for now in small.those(goal, calm):
                        self.assertTrue(is_in(Fraction(search.worth(form, now), now[("n",)]), told))

    def test_borne(self):
        source = random.Random(43)
        for number in range(40):
            protocol = made.vote(source) if number % 2 else self.protocol(source, True)
            wishes = made.vote_wishes(source) if number % 2 else made.wishes(source, protocol, source.randint(0, 4))
            told = borne(protocol, wishes)
            self.check_kinds(told)
            free = protocol.but(promise=[])
            each = [shares(free, goal, bound(), calm=word == "calm") for word, goal in wishes]
            ends = {Fraction(*end) for part in [told, *each] for interval in part for end in interval[::2]}
            for share in ends | {end + Fraction(1, 77) for end in ends} | {Fraction(0), Fraction(1), Fraction(1, 2)}:
                self.assertEqual(is_in(share, told), any(is_in(share, part) for part in each))


class Borne(Told):
    def test_the_echo(self):
        wish = ("calm", SOME_AND_NOT_ALL_END)
        told = [((1, 3), True, (1, 1), True)]
        self.assertEqual(borne(echo(), [wish]), told)
        # the promises are not looked at
        self.assertEqual(borne(echo(promise=[above(members(), 3 * bound())]), [wish]), told)
        self.assertEqual(borne(echo(promise=[at_least(0, members())]), [wish]), told)
        self.assertEqual(borne(echo(), [("never", NOBODY_BEGINS), list(wish)]), told)
        self.assertEqual(borne(echo(), [("never", NOBODY_BEGINS)]), [])
        self.assertEqual(borne(echo(), (("never", SOME_AND_NOT_ALL_END), wish, wish, wish)), ALL)
        self.assertEqual(borne(echo(), []), [])

    def test_the_ballot(self):
        both = [at_least(at("won"), 1), at_least(at("lost"), 1)]
        for faults, told in [
            # half of the members say yes or are liars, and half say no or are the same liars
            ("lying", [((0, 1), False, (1, 1), True)]),
            ("silent", []),
            ("stopping", []),
        ]:
            self.assertEqual(borne(ballot(faults), [("never", both)]), told)


class Calls(Told):
    def raises(self, call, kind, attribute, thing):
        with self.assertRaises(kind) as caught:
            call()
        held = getattr(caught.exception, attribute)
        self.assertIs(type(held), type(thing))
        self.assertEqual(held, thing)

    def test_forms_that_are_none(self):
        unfit = [thing for thing in any_objects() if not isinstance(thing, Form)]
        unfit += [members() + 1, at("old") - 1, Form([], 0), Form([], 3), members() - members()]
        unfit += [heard("echo"), bound() + heard("echo"), at("nowhere"), bound() + begun("echo"), said("noone")]
        for thing in unfit:
            self.raises(lambda: shares(echo(), [], thing), BadForm, "thing", thing)
            self.raises(lambda: shares(echo(), [None], thing, calm=True), BadGoal, "index", 0)
            self.raises(lambda: shares(echo(), (at_least(at("old"), 0), "goal"), thing), BadGoal, "index", 1)
        # a sort that conditions hear and nobody says is one of the protocol
        mute = echo().but(rules=[Rule("end", "old", "done", [above(heard("noone"), 0)])])
        self.assertEqual(self.look(mute, [], said("noone")), [((0, 1), True, (0, 1), True)])

    def test_standings_need_not_be_calm_if_nothing_is_asked(self):
        busy = [at_least(at("news"), 1)]
        self.assertEqual(self.look(echo(), busy, bound(), calm=True), [])
        self.assertEqual(shares(echo(), busy, bound()), ALL)

    def test_wishes_that_are_none(self):
        good = ("never", [])
        for thing in any_objects():
            if thing not in ([], ()):
                if not isinstance(thing, (list, tuple)):
                    self.raises(lambda: borne(echo(), thing), BadWish, "index", 0)
                self.raises(lambda: borne(echo(), [good, thing, None]), BadWish, "index", 1)

    def test_by_position_and_by_name(self):
        goal = SOME_AND_NOT_ALL_END
        told = shares(echo(), goal, bound(), calm=True)
        self.assertEqual(shares(protocol=echo(), goal=tuple(goal), form=bound(), calm=True), told)
        self.assertEqual(borne(protocol=echo(), wishes=[("calm", tuple(goal))]), told)
        self.assertRaises(TypeError, lambda: shares(echo(), goal, bound(), True))
        for function in (shares, borne):
            self.assertEqual(inspect.getmodule(function), shares_file)

    def test_nothing_is_changed_and_all_is_told_alike(self):
        goal = list(SOME_AND_NOT_ALL_END)
        wishes = [["calm", goal], ("never", [])]
        first, other = shares(echo(), goal, bound(), calm=True), borne(echo(), wishes)
        first.clear()
        other.clear()
        self.assertEqual(shares(echo(), goal, bound(), calm=True), [((1, 3), True, (1, 1), True)])
        self.assertEqual(borne(echo(), wishes), ALL)
        self.assertEqual(wishes, [["calm", SOME_AND_NOT_ALL_END], ("never", [])])
