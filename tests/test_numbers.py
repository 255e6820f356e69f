"""Points 3 and 23: what can come where it is told how many members there are."""

import inspect
import random
import unittest
import unittest.mock

from manyvoices import counts
from manyvoices import numbers as numbers_file
from manyvoices.errors import BadGoal, BadMany
from manyvoices.forms import above, at, at_least, begun, bound, faulty, heard, members, said
from manyvoices.numbers import numbers, run_at
from manyvoices.protocols import Rule, Scheme
from manyvoices.reaching import reach
from manyvoices.runs import is_calm, is_run, meets
from tests import made, search
from tests.examples import any_objects, ballot, echo
from tests.test_papers import NOBODY_BEGINS
from tests.test_reaching import SOME_AND_NOT_ALL_END

ALL_PAIRS = [(n, t) for n in range(1, 5) for t in range(n + 1)]


class Numbers(unittest.TestCase):
    def look(self, protocol, goal, calm=False):
        """Looks at all that is told of a goal, and returns the pairs with up to four members."""
        pairs = numbers(protocol, goal, 4, calm=calm)
        self.assertIs(type(pairs), list)
        self.assertTrue(all(type(pair) is tuple and [type(part) for part in pair] == [int, int] for pair in pairs))
        self.assertEqual(pairs, [pair for pair in ALL_PAIRS if pair in pairs])
        for most in range(4):
            self.assertEqual(numbers(protocol, goal, most, calm=calm), [pair for pair in pairs if pair[0] <= most])
        for n in range(5):
            for t in range(5):
                run = run_at(protocol, goal, n, t, calm=calm)
                self.assertEqual(run is not None, (n, t) in pairs)
                if run is not None:
                    self.assertEqual(run[:2], (n, t))
                    self.assertTrue(is_run(protocol, run))
                    self.assertTrue(meets(protocol, run, goal))
                    self.assertTrue(is_calm(protocol, run) or not calm)
        for n, t in pairs:
            for factor in range(2, 4 // n + 1):
                self.assertIn((factor * n, factor * t), pairs)
        if pairs:
            self.assertIsNotNone(reach(protocol, goal, calm=calm))
        return pairs

    def test_the_echo(self):
        for faults in made.FAULTS:
            self.assertEqual(self.look(echo(faults=faults), NOBODY_BEGINS), [])
        self.assertEqual(self.look(echo(), []), ALL_PAIRS)
        self.assertEqual(self.look(echo(), [], calm=True), ALL_PAIRS)
        # with n = 3 t, and above it, but not below it
        told = self.look(echo(), SOME_AND_NOT_ALL_END, calm=True)
        self.assertEqual(told, [(n, t) for n, t in ALL_PAIRS if n <= 3 * t and n > 1])

    def test_some_member_goes_by_the_rules(self):
        self.assertEqual(self.look(echo(), [at_least(at("old"), 1)]), ALL_PAIRS)
        self.assertEqual(self.look(echo(), [at_least(bound(), members())]), [(1, 1), (2, 2), (3, 3), (4, 4)])
        self.assertEqual(self.look(echo(), [at_least(faulty(), bound())]), [(n, t) for n, t in ALL_PAIRS if t < n])
        self.assertEqual(self.look(echo(), [at_least(faulty(), members())]), [])

    def test_whole_members(self):
        # half of the members can be had with two and four of them alone, a third with three
        for times, fitting in [(2, {2, 4}), (3, {3}), (4, {4}), (5, set())]:
            form = times * at("old")
            goal = [at_least(form, members()), at_least(members(), form), at_least(at("news"), members() - at("old"))]
            self.assertEqual({n for n, _ in self.look(echo(), goal)}, fitting)
            self.assertIsNotNone(reach(echo(), goal))

    def test_promises(self):
        promise = [above(members(), 3 * bound())]
        self.assertEqual(self.look(echo(promise=promise), []), [(n, t) for n, t in ALL_PAIRS if n > 3 * t])
        self.assertEqual(self.look(echo(promise=[*promise, at_least(bound(), 1)]), []), [(4, 1)])
        self.assertEqual(self.look(echo(promise=[at_least(0, members())]), []), [])

    def test_steps_of_told_numbers(self):
        # three voices are wanted where there are three, and who says the third one has heard two
        rules = [
            Rule("one", "a", "b", says=["x"]),
            Rule("two", "c", "b", [at_least(2 * heard("x"), members())], ["x"]),
            Rule("end", "b", "d", [at_least(heard("x"), members())]),
        ]
        protocol = Scheme(["a", "b", "c", "d"], ["a", "c"], rules, faults="silent")
        goal = [at_least(at("d"), members()), at_least(begun("c"), begun("a"))]
        self.assertEqual({n for n, _ in self.look(protocol, goal)}, {2, 4})
        goal[1] = at_least(2 * begun("c"), begun("a"))
        self.assertEqual({n for n, _ in self.look(protocol, goal)}, {2, 3, 4})

    def test_those_that_stop(self):
        protocol = Scheme(["a", "b"], ["a"], [Rule("say", "a", "b", says=["x"])], faults="stopping")
        stopped = [above(members(), at("a") + at("b"))]
        self.assertEqual(self.look(protocol, stopped), [(n, t) for n, t in ALL_PAIRS if n > 1 and t > 0])
        self.assertEqual(self.look(protocol, [*stopped, at_least(said("x"), members())]), self.look(protocol, stopped))
        self.assertEqual(self.look(protocol.but(faults="lying"), [above(members() - faulty(), at("a") + at("b"))]), [])

    def test_made_up(self):
        source = random.Random(31)
        some = 0
        for number in range(36):
            most = 4 if number < 6 else 3
            if number % 2:
                protocol = made.vote(source)
                goals = [goal for _, goal in made.vote_wishes(source)[:3]]
            else:
                places, rules = source.randint(1, 5), source.randint(0, 6)
                protocol = made.protocol(source, places=places, rules=rules, conditions=source.randint(0, 3))
                goals = [made.goal(source, protocol, 3) for _ in range(3)]
            small = search.Small(protocol, most)
            for goal in goals:
                for calm in (False, True):
                    pairs = small.pairs(goal, calm)
                    self.assertEqual([pair for pair in self.look(protocol, goal, calm) if pair[0] <= most], pairs)
                    some += 0 < len(pairs) < len(small.pairs([], False))
        self.assertGreater(some, 20)

    def test_members_are_not_parted(self):
        # where numbers could be had with parts of members, they are counted one by one
        counted = {"found": 0, "none": 0}

        def count(*told):
            crowd = counts.counted_crowd(*told)
            counted["none" if crowd is None else "found"] += 1
            return crowd

        source = random.Random(33)
        with unittest.mock.patch.object(numbers_file, "counted_crowd", count):
            for number in range(40):
                if number % 2:
                    protocol = made.vote(source)
                else:
                    rules = source.randint(2, 5)
                    protocol = made.protocol(source, places=source.randint(2, 4), rules=rules, conditions=2)
                small = search.Small(protocol, 3)
                for _ in range(4):
                    terms = [at(place) for place in protocol.places()] + [said(sort) for sort in protocol.sorts()]
                    one, other = source.choice(terms), source.choice([members(), bound(), faulty(), *terms])
                    form = source.choice([2, 3]) * one - other
                    goal = [at_least(form, 0), at_least(0, form), *made.goal(source, protocol, 1)]
                    for calm in (False, True):
                        pairs = small.pairs(goal, calm)
                        self.assertEqual(numbers(protocol, goal, 3, calm=calm), pairs)
                        for n, t in pairs:
                            run = run_at(protocol, goal, n, t, calm=calm)
                            self.assertTrue(is_run(protocol, run) and run[:2] == (n, t))
                            self.assertTrue(meets(protocol, run, goal) and (is_calm(protocol, run) or not calm))
        self.assertGreater(counted["found"], 10)
        self.assertGreater(counted["none"], 10)

    def test_ballot(self):
        for faults in made.FAULTS:
            small = search.Small(ballot(faults), 4)
            for goal in ([at_least(at("won"), 1)], [at_least(at("won"), 1), at_least(at("lost"), 1)], []):
                for calm in (False, True):
                    self.assertEqual(self.look(ballot(faults), goal, calm), small.pairs(goal, calm))

    def test_seven_places_and_eight_rules(self):
        source = random.Random(32)
        for _ in range(4):
            protocol = made.protocol(source, places=7, rules=8, conditions=3)
            for calm in (False, True):
                self.look(protocol, made.goal(source, protocol), calm)


class Calls(unittest.TestCase):
    def check(self, call, kind, attribute, thing):
        with self.assertRaises(kind) as caught:
            call()
        held = getattr(caught.exception, attribute)
        self.assertIs(type(held), type(thing))
        self.assertEqual(held, thing)

    def test_numbers_that_are_none(self):
        for thing in [*any_objects(), 5, 6, 4.0]:
            if thing in (0, 1) and not isinstance(thing, (bool, float)):
                continue
            self.check(lambda: numbers(echo(), [], thing), BadMany, "many", thing)
            self.check(lambda: run_at(echo(), [], thing, 1), BadMany, "many", thing)
            self.check(lambda: run_at(echo(), [], 1, thing), BadMany, "many", thing)
            self.check(lambda: run_at(echo(), [], thing, -7, calm=True), BadMany, "many", thing)
            self.check(lambda: numbers(echo(), [at_least(members(), 0), None], thing), BadGoal, "index", 1)
            self.check(lambda: run_at(echo(), "goal", thing, thing), BadGoal, "index", 0)

    def test_numbers_with_which_nothing_can_be(self):
        self.assertEqual(numbers(echo(), [], 0), [])
        for n, t in [(0, 0), (0, 4), (1, 2), (3, 4)]:
            self.assertIsNone(run_at(echo(), [], n, t))
            self.assertIsNone(run_at(echo(faults="stopping"), [], n, t, calm=True))

    def test_standings_need_not_be_calm_if_nothing_is_asked(self):
        busy = [at_least(at("news"), 1)]
        self.assertEqual(numbers(echo(), busy, 4), ALL_PAIRS)
        self.assertEqual(numbers(echo(), busy, 4, calm=True), [])
        self.assertIsNotNone(run_at(echo(), busy, 2, 1))
        self.assertIsNone(run_at(echo(), busy, 2, 1, calm=True))

    def test_by_position_and_by_name(self):
        goal = SOME_AND_NOT_ALL_END
        pairs = numbers(echo(), tuple(goal), 3, calm=True)
        self.assertEqual(numbers(protocol=echo(), goal=goal, most=3, calm=True), pairs)
        self.assertEqual(
            run_at(protocol=echo(), goal=goal, n=3, t=1, calm=True), run_at(echo(), tuple(goal), 3, 1, calm=True)
        )
        self.assertRaises(TypeError, lambda: numbers(echo(), goal, 3, True))
        self.assertRaises(TypeError, lambda: run_at(echo(), goal, 3, 1, True))
        for function in (numbers, run_at):
            self.assertEqual(inspect.getmodule(function), numbers_file)

    def test_nothing_is_changed_and_all_is_told_alike(self):
        protocol, goal = echo(), list(SOME_AND_NOT_ALL_END)
        first = numbers(protocol, goal, 4, calm=True)
        run = run_at(protocol, goal, 3, 1, calm=True)
        first.append("more")
        run[3].append("more")
        run[4].append("more")
        self.assertEqual(numbers(protocol, goal, 4, calm=True), first[:-1])
        self.assertTrue(is_run(protocol, run_at(protocol, goal, 3, 1, calm=True)))
        self.assertEqual(goal, SOME_AND_NOT_ALL_END)
        self.assertEqual(protocol, echo())
