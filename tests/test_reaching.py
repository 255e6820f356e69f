"""Points 3, 5, 21, 22 and 36: reach, paper and together, for all numbers of members."""

import copy
import inspect
import itertools
import random
import unittest

from manyvoices import reaching
from manyvoices.errors import BadGoal
from manyvoices.forms import above, at, at_least, begun, bound, faulty, heard, members, said
from manyvoices.protocols import Rule, Scheme
from manyvoices.reaching import is_paper, paper, reach, together
from manyvoices.runs import is_calm, is_run, meets
from tests import made, search, weighing
from tests.examples import any_objects, ballot, echo
from tests.test_papers import NOBODY_BEGINS

SOME_AND_NOT_ALL_END = [at_least(at("done"), 1), above(members() - faulty(), at("done"))]


def protocol_of(source, calm, places=(1, 7)):
    return made.protocol(
        source,
        places=source.randint(*places),
        rules=source.randint(0, 8),
        conditions=source.randint(0, 3 if calm else 4),
    )


class Answers(unittest.TestCase):
    """What reach and paper tell, looked at with all that tells what runs and papers are."""

    def look(self, protocol, goal, calm=False):
        """Returns whether the goal can be met."""
        run = reach(protocol, goal, calm=calm)
        told = paper(protocol, goal, calm=calm)
        self.assertEqual(told is None, run is not None)
        if run is None:
            self.assertIs(is_paper(protocol, goal, told, calm=calm), True)
            self.assertTrue(weighing.is_paper(protocol, goal, told, calm))
            return False
        self.assertTrue(is_run(protocol, run))
        self.assertTrue(meets(protocol, run, goal))
        self.assertTrue(is_calm(protocol, run) or not calm)
        self.assertEqual((type(run), [type(part) for part in run]), (tuple, [int, int, int, list, list]))
        self.assertTrue(all(type(pair) is tuple and type(pair[1]) is int for pair in run[3]))
        self.assertTrue(all(type(step) is tuple and type(step[2]) is int for step in run[4]))
        return True


class TheEcho(Answers):
    def test_nobody_ends_if_nobody_has_begun_with_the_news(self):
        for faults in made.FAULTS:
            self.assertFalse(self.look(echo(faults=faults), NOBODY_BEGINS))
            self.assertTrue(self.look(echo(faults=faults), NOBODY_BEGINS[:1]))
            self.assertTrue(self.look(echo(faults=faults), NOBODY_BEGINS[1:]))
            self.assertTrue(self.look(echo(faults=faults), [at_least(begun("old"), begun("news")), *NOBODY_BEGINS[1:]]))

    def test_liars_alone_do_not_make_anybody_join(self):
        goal = [at_least(0, begun("news")), at_least(at("sent"), 1)]
        self.assertFalse(self.look(echo(), goal))
        # with t of them that are not all borne they could
        rules = echo().rules()
        join = Rule("join", "old", "sent", [at_least(heard("echo"), bound())], ["echo"])
        self.assertTrue(self.look(echo().but(rules=[rules[0], join, rules[2]]), goal))
        self.assertTrue(self.look(echo().but(rules=[rules[0], join, rules[2]]), [*goal, at_least(bound(), 1)]))
        self.assertFalse(
            self.look(echo(faults="silent").but(rules=[rules[0], join, rules[2]]), [*goal, at_least(bound(), 1)])
        )

    def test_some_end_and_not_all(self):
        self.assertTrue(self.look(echo(), SOME_AND_NOT_ALL_END, calm=True))
        safe = echo(promise=[above(members(), 3 * bound())])
        self.assertTrue(self.look(safe, SOME_AND_NOT_ALL_END))
        self.assertFalse(self.look(safe, SOME_AND_NOT_ALL_END, calm=True))
        nearly = echo(promise=[at_least(members(), 3 * bound())])
        self.assertTrue(self.look(nearly, SOME_AND_NOT_ALL_END, calm=True))
        run = reach(nearly, SOME_AND_NOT_ALL_END, calm=True)
        self.assertEqual(run[0], 3 * run[1])

    def test_all_together(self):
        places = echo().places()
        for faults in made.FAULTS:
            self.assertEqual(together(echo(faults=faults)), [places])
        self.assertEqual(together(echo(), calm=True), [["old", "sent", "done"]])
        self.assertEqual(together(echo(faults="silent"), calm=True), [["old", "sent"], ["old", "done"]])
        self.assertEqual(together(echo(faults="stopping"), calm=True), [["old", "sent", "done"]])

    def test_all_together_in_a_ballot(self):
        apart = [["yea", "nay", "wait", "won"], ["yea", "nay", "wait", "lost"]]
        self.assertEqual(together(ballot("lying")), [["yea", "nay", "wait", "won", "lost"]])
        self.assertEqual(together(ballot("silent")), apart)
        self.assertEqual(together(ballot("stopping")), apart)
        self.assertEqual(together(ballot("silent"), calm=True), [["wait"], ["won"], ["lost"]])
        self.assertEqual(together(ballot("stopping"), calm=True), [["wait", "won"], ["wait", "lost"]])


class Faults(Answers):
    """What only one of the words of faults lets come."""

    def test_a_voice_that_is_said_within_a_rule(self):
        # whoever says the voice does not come to the place, and yet it is heard
        rules = [Rule("say", "a", "b", says=["x"]), Rule("on", "c", "d", [above(heard("x"), 0 * bound())])]
        protocol = Scheme(["a", "b", "c", "d"], ["a", "c"], rules)
        goal = [at_least(at("d"), 1), at_least(0, at("b"))]
        self.assertFalse(self.look(protocol.but(faults="silent"), goal))
        self.assertTrue(self.look(protocol, goal))
        self.assertTrue(self.look(protocol.but(faults="stopping"), goal))
        run = reach(protocol.but(faults="stopping"), [*goal, at_least(0, said("x"))])
        self.assertIn("cut", [step[0] for step in run[4]])

    def test_who_is_cut_in_a_rule_has_said_in_full_what_it_said_ahead(self):
        rules = [
            Rule("first", "a", "b", says=["x"]),
            Rule("second", "b", "c", [above(heard("x"), 0 * bound())], ["y"]),
            Rule("on", "d", "e", [above(heard("y"), 0 * bound())]),
        ]
        protocol = Scheme(["a", "b", "c", "d", "e"], ["a", "d"], rules, faults="stopping")
        goal = [at_least(at("e"), 1), at_least(0, at("c") + at("b") + at("a")), at_least(0, said("y"))]
        self.assertTrue(self.look(protocol, goal))
        self.assertTrue(self.look(protocol, [*goal, at_least(said("x"), begun("a"))]))
        steps = [step[:2] for step in reach(protocol, goal)[4]]
        self.assertEqual(steps, [("go", "first"), ("cut", "second"), ("go", "on")])
        self.assertFalse(self.look(protocol, [*goal, at_least(0, said("x"))]))

    def test_a_sort_with_the_name_of_a_kind(self):
        for sort in ("heard", "said", "cut", "at", "n"):
            rules = [Rule("say", "a", "b", says=[sort]), Rule("on", "c", "d", [above(heard("x"), bound())])]
            protocol = Scheme(["a", "b", "c", "d"], ["a", "c"], rules)
            self.assertFalse(self.look(protocol, [at_least(at("d"), 1)]))
            rules[1] = Rule("on", "c", "d", [above(heard("x", sort), bound())])
            self.assertTrue(self.look(protocol.but(rules=rules), [at_least(at("d"), 1)]))

    def test_those_that_stop_at_a_place(self):
        protocol = Scheme(["a", "b"], ["a"], [Rule("say", "a", "b", says=["x"])])
        goal = [at_least(0, at("a")), above(said("x"), at("b"))]
        self.assertFalse(self.look(protocol, goal))
        self.assertTrue(self.look(protocol.but(faults="stopping"), goal))
        run = reach(protocol.but(faults="stopping"), goal)
        self.assertIn(("stop", "b"), [step[:2] for step in run[4]])
        # the last one that stands does not stop
        self.assertFalse(self.look(protocol.but(faults="stopping"), [at_least(0, at("a") + at("b"))]))

    def test_what_is_surely_heard(self):
        # the liars say enough for some, though not surely for the others
        rules = [Rule("on", "a", "b", [at_least(heard("x"), bound())])]
        protocol = Scheme(["a", "b"], ["a"], rules)
        goal = [at_least(bound(), 1), at_least(at("a"), 1), at_least(at("b"), 1)]
        self.assertTrue(self.look(protocol, goal, calm=True))
        self.assertFalse(self.look(protocol.but(faults="silent"), goal, calm=True))
        self.assertFalse(self.look(protocol, [at_least(0, bound()), at_least(at("a"), 1)], calm=True))

    def test_times_and_sorts(self):
        rules = [
            Rule("x", "a", "b", says=["x"]),
            Rule("y", "a", "c", says=["y"]),
            Rule("on", "b", "d", [above(3 * heard("x", "y"), 2 * members())]),
        ]
        for faults in made.FAULTS:
            protocol = Scheme(["a", "b", "c", "d"], ["a"], rules, faults=faults)
            here = [at_least(at("d"), 1), at_least(0, faulty())]
            self.assertTrue(self.look(protocol, [*here, above(3 * (said("x") + said("y")), 2 * members())]))
            self.assertFalse(self.look(protocol, [*here, at_least(2 * members(), 3 * (said("x") + said("y")))]))
            self.assertTrue(self.look(protocol, [*here, above(said("y"), 5 * said("x"))]))


class Edges(Answers):
    def test_no_comparisons(self):
        alone = Scheme(["a"], ["a"], [])
        for protocol in [echo(), ballot("silent"), alone, alone.but(faults="stopping")]:
            for calm in (False, True):
                self.assertTrue(self.look(protocol, [], calm))
                self.assertTrue(self.look(protocol, (), calm))

    def test_one_place_and_no_rules(self):
        for faults in made.FAULTS:
            alone = Scheme(["a"], ["a"], [], faults=faults)
            self.assertEqual(together(alone), [["a"]])
            self.assertEqual(together(alone, calm=True), [["a"]])
            self.assertFalse(self.look(alone, [at_least(0, at("a"))]))
            self.assertEqual(self.look(alone, [above(begun("a"), at("a"))]), faults == "stopping")
            self.assertTrue(self.look(alone, [above(members(), at("a"))], calm=True))
            self.assertFalse(self.look(alone, [at_least(said("x"), 1)]))
        two = Scheme(["a", "b", "c"], ["c", "a"], [])
        self.assertEqual(together(two), [["a", "c"]])
        self.assertFalse(self.look(two, [at_least(at("b"), 1)]))

    def test_sorts_that_no_rule_says(self):
        for sort in ["noone", "echo", "n", "t", "and"]:
            self.assertEqual(self.look(echo(), [at_least(said(sort), 1)]), sort == "echo")
            self.assertTrue(self.look(echo(), [at_least(0, said(sort))]))

    def test_promises(self):
        for n_times, t_times in [(1, 2), (1, 3), (2, 3), (5, 7)]:
            promise = [above(n_times * members(), t_times * bound())]
            protocol = echo(promise=promise)
            self.assertTrue(self.look(protocol, promise))
            self.assertFalse(self.look(protocol, [at_least(t_times * bound(), n_times * members())]))
            self.assertTrue(self.look(protocol, [above((t_times + 1) * bound(), n_times * members())]))
        both = echo(promise=[above(members(), 3 * bound()), above(4 * bound(), members())])
        self.assertFalse(self.look(both, [at_least(members(), 4 * bound())]))
        self.assertTrue(self.look(both, [at_least(at("done"), 1)], calm=True))

    def test_promises_that_no_numbers_keep(self):
        for promise in [
            [at_least(0, members())],
            [above(bound(), members())],
            [above(0, bound())],
            [above(members(), 3 * bound()), above(2 * bound(), members())],
        ]:
            for faults in made.FAULTS:
                protocol = echo(promise=promise, faults=faults)
                for calm in (False, True):
                    self.assertFalse(self.look(protocol, [], calm))
                    self.assertFalse(self.look(protocol, [at_least(at("old"), 1)], calm))
                    self.assertEqual(together(protocol, calm=calm), [])

    def test_great_integers(self):
        most = 10**6 - 1
        for faults in made.FAULTS:
            rules = [
                Rule("say", "a", "b", says=["x"]),
                Rule("on", "b", "c", [above(most * heard("x"), (most - 1) * members() - most * bound())], ["y"]),
                Rule("off", "c", "d", [at_least((most - 7) * heard("y"), (most - 8) * members() - bound())]),
            ]
            promise = [above(members(), most * bound()), at_least(bound(), 1)]
            protocol = Scheme(["a", "b", "c", "d"], ["a"], rules, promise=promise, faults=faults)
            goal = [at_least(at("d"), 1), at_least(at("a"), 1), above(most * at("b"), 3 * members() - most * bound())]
            self.look(protocol, goal)
            self.assertTrue(self.look(protocol, goal[:1]))
            self.assertTrue(self.look(protocol, goal[:1], calm=True))

    def test_goals_that_bind_all_numbers(self):
        equal = [at_least(members(), 3 * bound()), at_least(3 * bound(), members())]
        self.assertTrue(self.look(echo(), [*equal, at_least(faulty(), bound()), at_least(bound(), 1)]))
        self.assertTrue(self.look(echo(), [*equal, above(bound(), faulty()), at_least(at("done"), 1)]))
        self.assertFalse(self.look(echo(), [*equal, above(faulty(), bound())]))

    def test_the_greatest_protocols(self):
        places = list("abcdefg")
        sorts = ["u", "v", "w", "x"]
        asks = [
            above(heard("u"), bound()),
            at_least(2 * heard("u", "v"), members()),
            at_least(heard("w"), members() - bound()),
            at_least(heard("x"), members() - 2 * bound()),
        ]
        for faults in made.FAULTS:
            rules = []
            for level in range(4):
                start, end = places[level], places[level + 1]
                rules.append(Rule("go" + sorts[level], start, end, asks[level : level + 1], [sorts[level]]))
                rules.append(Rule("by" + sorts[level], start, end, asks[1 : level + 1][:2], [sorts[level]]))
            rules[0] = Rule("gou", "a", "b", [], ["u"])
            protocol = Scheme(places, places, rules, faults=faults)
            self.assertEqual(len(protocol.conditions()), 3)
            for calm in (False, True):
                for place in places:
                    goal = [at_least(at(place), 1), above(members(), 3 * bound()), at_least(bound(), 1)]
                    self.look(protocol, goal, calm)
                    self.look(protocol, [*goal, at_least(begun("a"), members() - faulty())], calm)
                self.assertTrue(together(protocol, calm=calm))
            four = protocol.but(rules=[*rules[:7], Rule("byx", "d", "e", asks[:1], ["x"])])
            self.assertEqual(len(four.conditions()), 4)
            goal = [at_least(at("e"), 1), at_least(begun("a"), members() - faulty()), above(members(), 2 * at("e"))]
            self.look(four, goal)
            self.assertTrue(together(four))


class MadeUp(Answers):
    def test_what_reach_and_paper_tell(self):
        source = random.Random(11)
        met = 0
        for _ in range(150):
            calm = source.random() < 0.5
            protocol = protocol_of(source, calm)
            met += self.look(protocol, made.goal(source, protocol), calm)
        self.assertTrue(40 < met < 110, met)
        met = 0
        for _ in range(40):
            protocol = made.vote(source)
            for word, goal in made.vote_wishes(source):
                met += self.look(protocol, goal, word == "calm")
        self.assertTrue(40 < met < 120, met)

    def test_what_can_come_with_few_members_can_be_reached(self):
        source = random.Random(12)
        none = 0
        for number in range(40):
            if number % 4:
                protocol = protocol_of(source, True, (2, 5))
                goals = [made.goal(source, protocol, 3) for _ in range(6)]
            else:
                protocol = made.vote(source)
                goals = [goal for _, goal in made.vote_wishes(source)]
            small = search.Small(protocol, 3)
            for goal in goals:
                for calm in (False, True):
                    reached = self.look(protocol, goal, calm)
                    none += not reached
                    if small.those(goal, calm):
                        self.assertTrue(reached)
        self.assertGreater(none, 50)

    def test_four_members(self):
        source = random.Random(13)
        for _ in range(6):
            protocol = made.protocol(source, places=4, rules=4, conditions=3)
            small = search.Small(protocol, 4)
            for _ in range(10):
                goal = made.goal(source, protocol, 3)
                for calm in (False, True):
                    if reach(protocol, goal, calm=calm) is None:
                        self.assertEqual(small.those(goal, calm), [])

    def test_each_small_standing_can_be_reached(self):
        # the goals tell one standing each, in all its parts, so that each of its shares is bound
        source = random.Random(14)
        for faults in made.FAULTS:
            protocol = made.protocol(source, places=4, rules=4, conditions=2, faults=faults, promises=0, sorts=2)
            small = search.Small(protocol, 2)
            for now in source.sample(small.found, min(25, len(small.found))):
                goal = self.just(protocol, now)
                self.assertTrue(self.look(protocol, goal))
                if search.is_calm(protocol, now):
                    self.assertTrue(self.look(protocol, goal, calm=True))

    def just(self, protocol, now):
        """A goal that is met by the multiples of a standing alone."""
        n, forms = now[("n",)], [(bound(), ("t",)), (faulty(), ("f",))]
        forms += [(at(place), ("at", place)) for place in protocol.places()]
        forms += [(begun(place), ("begun", place)) for place in protocol.places()]
        forms += [(said(sort), ("said", sort)) for sort in protocol.sorts()]
        goal = []
        for form, key in forms:
            parted = n * form - now[key] * members()
            goal.extend([at_least(parted, 0), at_least(0, parted)])
        return goal


def other_echo(a, b, faults):
    """The echo in which members join at more than a t, and end at n - b t."""
    tell, _, _ = echo().rules()
    join = Rule("join", "old", "sent", [above(heard("echo"), a * bound())], ["echo"])
    end = Rule("end", "sent", "done", [at_least(heard("echo"), members() - b * bound())])
    return echo().but(rules=[tell, join, end], faults=faults)


class Together(unittest.TestCase):
    def test_made_up(self):
        source = random.Random(21)
        several = 0
        for number in range(40):
            protocol = made.vote(source) if number % 3 == 0 else protocol_of(source, True, (2, 5))
            small = search.Small(protocol, 3)
            for calm, found in ((False, small.found), (True, small.calm)):
                told = together(protocol, calm=calm)
                several += len(told) > 1
                self.check_lists(protocol, told, calm)
                for now in found:
                    places = {place for place in protocol.places() if now[("at", place)]}
                    self.assertTrue(any(places <= set(greater) for greater in told))
        self.assertGreater(several, 6)

    def check_lists(self, protocol, told, calm):
        places = protocol.places()
        numbers = [[places.index(place) for place in some] for some in told]
        self.assertIs(type(told), list)
        self.assertTrue(all(type(some) is list for some in told))
        self.assertEqual(numbers, sorted(sorted(set(some)) for some in numbers))
        for some in told:
            self.assertIsNotNone(reach(protocol, [at_least(at(place), 1) for place in some], calm=calm))
            for other in told:
                self.assertTrue(some is other or not set(some) <= set(other))
            for more in set(places) - set(some):
                goal = [at_least(at(place), 1) for place in [*some, more]]
                self.assertIsNone(reach(protocol, goal, calm=calm))

    def test_greater_protocols(self):
        source = random.Random(22)
        for _ in range(12):
            protocol = made.protocol(source, places=7, rules=8, conditions=3)
            for calm in (False, True):
                self.check_lists(protocol, together(protocol, calm=calm), calm)

    def test_each_list_is_told_once(self):
        source = random.Random(23)
        several = 0
        for number in range(90):
            protocol = made.vote(source, made.FAULTS[number % 3])
            told = together(protocol, calm=True)
            several += len(told) > 2
            self.check_lists(protocol, told, True)
        self.assertGreater(several, 1)

    def test_no_list_is_left_out(self):
        source = random.Random(24)
        several = 0
        for number in range(60):
            if number < 36:
                a, b = number // 3 % 3, number // 9
                protocol = other_echo(a, b, made.FAULTS[number % 3])
            else:
                protocol = made.vote(source) if number % 2 else protocol_of(source, True, (3, 5))
            for calm in (False, True):
                held = []
                for many in range(len(protocol.places()), 0, -1):
                    for some in itertools.combinations(protocol.places(), many):
                        if not any(set(some) <= set(more) for more in held):
                            goal = [at_least(at(place), 1) for place in some]
                            if paper(protocol, goal, calm=calm) is None:
                                held.append(some)
                told = together(protocol, calm=calm)
                self.assertEqual(sorted(told), sorted(map(list, held)))
                several += len(told) > 1
        self.assertGreater(several, 30)

    def test_order_of_the_lists(self):
        # n is either at most 2 t, and all go to the last place, or above it, and they go to the middle one
        for heard_of in [["x"], ["x", "y"]]:
            rules = [
                Rule("far", "a", "c", [at_least(heard(*heard_of), members() - 2 * bound())]),
                Rule("near", "a", "b", [above(heard(*heard_of), 2 * bound() - members())]),
            ]
            protocol = Scheme(["a", "b", "c"], ["a"], rules, faults="silent")
            self.assertEqual(together(protocol), [["a", "b"], ["a", "c"]])
            self.assertEqual(together(protocol, calm=True), [["b"], ["c"]])


class Calls(unittest.TestCase):
    def test_by_position_and_by_name(self):
        goal = NOBODY_BEGINS
        self.assertEqual(reach(protocol=echo(), goal=goal[1:], calm=False), reach(echo(), goal[1:]))
        self.assertEqual(paper(protocol=echo(), goal=goal, calm=False), paper(echo(), goal))
        told = paper(echo(), goal)
        self.assertIs(is_paper(protocol=echo(), goal=goal, thing=told, calm=False), True)
        self.assertEqual(together(protocol=echo(), calm=False), together(echo()))
        for call in [
            lambda: reach(echo(), goal, True),
            lambda: paper(echo(), goal, True),
            lambda: is_paper(echo(), goal, told, True),
            lambda: together(echo(), True),
        ]:
            self.assertRaises(TypeError, call)

    def test_standings_need_not_be_calm_if_nothing_is_asked(self):
        busy = [at_least(at("news"), 1)]
        self.assertIsNone(reach(echo(), busy, calm=True))
        self.assertIsNotNone(reach(echo(), busy))
        self.assertIsNone(paper(echo(), busy))
        told = paper(echo(), busy, calm=True)
        self.assertIs(is_paper(echo(), busy, told, calm=True), True)
        self.assertIs(is_paper(echo(), busy, told), False)
        self.assertIs(is_paper(echo(), NOBODY_BEGINS, paper(echo(), NOBODY_BEGINS)), True)
        self.assertNotEqual(together(echo(), calm=True), together(echo()))

    def test_each_function_stands_in_its_file(self):
        for function in (reach, paper, is_paper, together):
            self.assertEqual(inspect.getmodule(function), reaching)

    def test_nothing_is_changed_and_all_is_told_alike(self):
        protocol = echo()
        for goal in (NOBODY_BEGINS[1:], tuple(NOBODY_BEGINS[1:]), NOBODY_BEGINS):
            before = copy.copy(goal)
            for ask in (
                lambda: reach(protocol, goal),
                lambda: paper(protocol, goal),
                lambda: reach(protocol, goal, calm=True),
                lambda: together(protocol, calm=True),
            ):
                first, second = ask(), ask()
                self.assertEqual(first, second)
                self.assertIs(type(first), type(second))
                for part in first or ():
                    if isinstance(part, list):
                        part.append("more")
                self.assertEqual(ask(), second)
            self.assertEqual(goal, before)
            self.assertEqual(protocol, echo())

    def test_wrong_goals(self):
        fits = [at_least(at("old"), 1), above(said("noone"), begun("done"))]
        unfit = [thing for thing in any_objects() if thing != at_least(said("echo"), 1)]
        unfit += [at_least(at("nowhere"), 1), above(begun("sent") - begun("echo"), 0)]
        for call in (reach, paper):
            for calm in (False, True):
                for thing in unfit:
                    if not isinstance(thing, (list, tuple)):
                        self.check(lambda: call(echo(), thing, calm=calm), 0)
                    self.check(lambda: call(echo(), [thing], calm=calm), 0)
                    self.check(lambda: call(echo(), (*fits, thing, None), calm=calm), 2)

    def check(self, call, index):
        with self.assertRaises(BadGoal) as caught:
            call()
        self.assertEqual(caught.exception.index, index)
