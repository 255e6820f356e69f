"""Points 17 to 20 and 36: orders, stages, weights, papers."""

import copy
import itertools
import random
import unittest

from manyvoices.errors import BadGoal
from manyvoices.forms import above, at, at_least, begun, bound, faulty, heard, members, said
from manyvoices.protocols import Rule, Scheme
from manyvoices.reaching import is_paper, paper, reach
from tests import made, weighing
from tests.examples import any_objects, echo

NOBODY_BEGINS = [at_least(0, begun("news")), at_least(at("done"), 1)]

# the first two as the document has them, the others by hand: all that ends is due to voices that begin with the news
ECHO_PAPER = [
    ((), (), [0, 1, 0, 0, 0]),
    ((0,), (), [1, 1, 0, 1, 0, 0]),
    ((1,), (), [0, 1, 1, 0, 0, 0]),
    ((0, 1), (), [1, 0, 1, 0, 1, 0, 0]),
    ((1, 0), (), [0, 1, 1, 0, 1, 0, 0]),
]


def lists(thing):
    return [lists(part) for part in thing] if isinstance(thing, (list, tuple)) else thing


def tuples(thing):
    return tuple(tuples(part) for part in thing) if isinstance(thing, (list, tuple)) else thing


def has_kinds(told, calm):
    """Whether a told paper has the kinds that point 20 writes."""
    return type(told) is list and all(
        type(triple) is tuple
        and type(triple[0]) is tuple
        and (triple[1] is None or type(triple[1]) is tuple)
        and (calm or triple[1] in (None, ()))
        and type(triple[2]) is list
        and all(type(number) is int for part in triple if part is not None for number in part)
        for triple in told
    )


def at_places(told):
    """All places of a paper, row by row, at which an integer stands."""
    for row, triple in enumerate(told):
        for part, integers in enumerate(triple):
            for index in range(len(integers or ())):
                yield row, part, index


def with_integer(told, place, thing):
    """The paper with another thing in the place of one integer."""
    row, part, index = place
    changed = [[None if some is None else list(some) for some in triple] for triple in told]
    changed[row][part][index] = thing
    return changed


class TheExample(unittest.TestCase):
    def test_the_paper(self):
        self.assertIs(is_paper(echo(), NOBODY_BEGINS, ECHO_PAPER), True)
        self.assertTrue(weighing.is_paper(echo(), NOBODY_BEGINS, ECHO_PAPER, False))
        for faults in ("lying", "silent"):
            told = paper(echo(faults=faults), NOBODY_BEGINS)
            self.assertTrue(has_kinds(told, False))
            self.assertTrue(weighing.is_paper(echo(faults=faults), NOBODY_BEGINS, told, False))
            self.assertIs(is_paper(echo(faults=faults), NOBODY_BEGINS, told), True)

    def test_weights_that_do_not_bar(self):
        for row, weights in [
            (0, [0, 0, 0, 0, 0]),
            (0, [1, 0, 0, 0, 0]),
            (0, [0, 0, 1, 0, 0]),
            (0, [0, 0, 0, 0, 1]),
            (1, [1, 0, 0, 1, 0, 0]),
            (1, [1, 1, 0, 0, 0, 0]),
            (1, [1, 1, 0, 1, 0, 1]),
            (2, [1, 1, 0, 1, 0, 0]),
            (3, [0, 1, 1, 0, 1, 0, 0]),
            (4, [1, 0, 1, 0, 1, 0, 0]),
        ]:
            changed = list(ECHO_PAPER)
            changed[row] = (*ECHO_PAPER[row][:2], weights)
            self.assertIs(is_paper(echo(), NOBODY_BEGINS, changed), False, (row, weights))
            self.assertFalse(weighing.is_paper(echo(), NOBODY_BEGINS, changed, False))

    def test_other_weights_that_bar(self):
        for row, weights in [
            (0, [3, 7, 0, 0, 0]),
            (0, [2, 1, 0, 0, 0]),
            (1, [2, 2, 0, 2, 0, 0]),
            (1, [1, 2, 0, 1, 0, 0]),
            (1, [0, 0, 1, 0, 0, 0]),
            (1, [10**50, 10**50, 1, 10**50, 0, 0]),
        ]:
            changed = list(ECHO_PAPER)
            changed[row] = (*ECHO_PAPER[row][:2], weights)
            self.assertIs(is_paper(echo(), NOBODY_BEGINS, changed), True, (row, weights))

    def test_the_row_for_t_counts(self):
        # without t - f the sum has t too often; with it too often, too many faulty ones
        for weight, is_one in [(0, False), (1, True), (2, False)]:
            changed = list(ECHO_PAPER)
            changed[1] = ((0,), (), [1, 1, 0, weight, 0, 0])
            self.assertIs(is_paper(echo(), NOBODY_BEGINS, changed), is_one)

    def test_the_order_of_the_triples_does_not_count(self):
        turned = list(reversed(ECHO_PAPER))
        self.assertIs(is_paper(echo(), NOBODY_BEGINS, turned), True)

    def test_lists_and_tuples_for_one_another(self):
        for told in (lists(ECHO_PAPER), tuples(ECHO_PAPER)):
            before = copy.deepcopy(told)
            self.assertIs(is_paper(echo(), tuple(NOBODY_BEGINS), told), True)
            self.assertEqual(told, before)

    def test_a_triple_too_few_or_too_many(self):
        for row in range(len(ECHO_PAPER)):
            self.assertIs(is_paper(echo(), NOBODY_BEGINS, ECHO_PAPER[:row] + ECHO_PAPER[row + 1 :]), False)
            self.assertIs(is_paper(echo(), NOBODY_BEGINS, [*ECHO_PAPER, ECHO_PAPER[row]]), False)
            again = (*ECHO_PAPER[row][:2], [3 * weight for weight in ECHO_PAPER[row][2]])
            self.assertIs(is_paper(echo(), NOBODY_BEGINS, [*ECHO_PAPER, again]), False)
        self.assertIs(is_paper(echo(), NOBODY_BEGINS, []), False)

    def test_a_part_too_few_or_too_many(self):
        for row, (order, few, weights) in enumerate(ECHO_PAPER):
            for triple in [
                (order, few),
                (order, few, weights, weights),
                (order, weights),
                (few, order, weights) if order else (order, weights, few),
                (weights, few, order),
                (order, few, weights[1:]),
                (order, few, weights[:-1]),
                (order, few, [*weights, 0]),
                (order, few, []),
                ((*order, 2), few, [0, *weights]),
                ((*order, -1), few, [0, *weights]),
                ((*order, 0, 0), few, [0, 0, *weights]),
                (order, (0,), [*weights, 0]),
                (order, None, weights),
                (order, None, weights[2:]),
                order,
                None,
            ]:
                changed = [*ECHO_PAPER[:row], triple, *ECHO_PAPER[row + 1 :]]
                self.assertIs(is_paper(echo(), NOBODY_BEGINS, changed), False, triple)

    def test_any_objects(self):
        for thing in any_objects():
            self.assertIs(is_paper(echo(), NOBODY_BEGINS, thing), False)
            self.assertIs(is_paper(echo(), NOBODY_BEGINS, [thing]), False)
            self.assertIs(is_paper(echo(), NOBODY_BEGINS, [*ECHO_PAPER, thing]), False)
            for part in range(3):
                for row, triple in enumerate(ECHO_PAPER):
                    changed = list(ECHO_PAPER)
                    changed[row] = (*triple[:part], thing, *triple[part + 1 :])
                    if thing not in ([], ()) or part == 2 or part == 0 and row > 0:
                        self.assertIs(is_paper(echo(), NOBODY_BEGINS, changed), False, (row, part, thing))

    def test_any_objects_in_the_place_of_integers(self):
        for place in at_places(ECHO_PAPER):
            for thing in any_objects():
                if not isinstance(thing, int) or isinstance(thing, bool) or thing < 0:
                    changed = with_integer(ECHO_PAPER, place, thing)
                    self.assertIs(is_paper(echo(), NOBODY_BEGINS, changed), False, (place, thing))

    def test_a_truth_value_is_no_integer(self):
        for place in at_places(ECHO_PAPER):
            row, part, index = place
            integer = ECHO_PAPER[row][part][index]
            self.assertIs(is_paper(echo(), NOBODY_BEGINS, with_integer(ECHO_PAPER, place, integer)), True)
            if integer in (0, 1):
                changed = with_integer(ECHO_PAPER, place, bool(integer))
                self.assertIs(is_paper(echo(), NOBODY_BEGINS, changed), False)

    def test_it_is_none_for_another_goal_or_protocol(self):
        self.assertIs(is_paper(echo(), NOBODY_BEGINS[1:], ECHO_PAPER), False)
        self.assertIs(is_paper(echo(), [*NOBODY_BEGINS, *NOBODY_BEGINS], ECHO_PAPER), False)
        self.assertIs(is_paper(echo(), NOBODY_BEGINS, ECHO_PAPER, calm=True), False)
        self.assertIs(is_paper(echo(faults="stopping"), NOBODY_BEGINS, ECHO_PAPER), False)
        self.assertIs(is_paper(echo(promise=[above(members(), bound())]), NOBODY_BEGINS, ECHO_PAPER), False)
        # where no liars are heard the same weights bar all the more
        self.assertIs(is_paper(echo(faults="silent"), NOBODY_BEGINS, ECHO_PAPER), True)


def one(**changed):
    """Three places, a voice, and a condition that wants more than t of it."""
    rules = [Rule("say", "a", "b", says=["x"]), Rule("on", "b", "c", [above(heard("x"), bound())])]
    return Scheme(["a", "b", "c"], ["a"], rules, **changed)


class Rows(unittest.TestCase):
    """Papers worked out by hand, in which one row or one rule of point 20 alone decides."""

    def check(self, protocol, goal, told, calm=False):
        self.assertIs(is_paper(protocol, goal, told, calm=calm), True)
        self.assertTrue(weighing.is_paper(protocol, goal, told, calm))
        mine = paper(protocol, goal, calm=calm)
        self.assertTrue(has_kinds(mine, calm))
        self.assertIs(is_paper(protocol, goal, mine, calm=calm), True)
        self.assertTrue(weighing.is_paper(protocol, goal, mine, calm))
        self.assertIsNone(reach(protocol, goal, calm=calm))

    def check_not(self, protocol, goal, told, calm=False):
        self.assertIs(is_paper(protocol, goal, told, calm=calm), False)
        self.assertFalse(weighing.is_paper(protocol, goal, told, calm))

    def test_the_last_rows(self):
        nothing = Scheme(["a"], ["a"], [])
        for goal, weights in [
            ([above(faulty(), bound())], [1, 1, 0, 0]),
            ([above(bound(), members())], [1, 0, 1, 0]),
            ([at_least(faulty(), members())], [1, 0, 0, 1]),
        ]:
            self.check(nothing, goal, [((), (), weights)])
            self.check_not(nothing, goal, [((), (), [1, 0, 0, 0])])
            self.check_not(nothing, goal, [((), (), [0, *weights[1:]])])

    def test_the_row_of_those_that_stop(self):
        nothing = Scheme(["a"], ["a"], [], faults="stopping")
        goal = [above(members() - faulty(), at("a"))]
        self.check(nothing, goal, [((), (), [1, 0, 0, 0, 1])])
        for weights in ([1, 0, 0, 0, 0], [1, 0, 0, 0, 2], [1, 0, 0, 0], [1, 0, 0, 0, 1, 0]):
            self.check_not(nothing, goal, [((), (), weights)])
        # those that go are all but the faulty ones here, so the goal alone is against it
        self.check(nothing.but(faults="silent"), goal, [((), (), [1, 0, 0, 0])])

    def test_promises(self):
        protocol = one(promise=[above(members(), 3 * bound()), above(bound(), 0)])
        goal = [at_least(3 * bound(), members()), at_least(at("c"), 0)]
        self.check(protocol, goal, [((), (), [1, 0, 1, 0, 0, 0, 0]), ((0,), (), [0, 1, 0, 1, 0, 0, 0, 0])])
        self.check_not(protocol, goal, [((), (), [0, 1, 1, 0, 0, 0, 0]), ((0,), (), [0, 1, 0, 1, 0, 0, 0, 0])])
        self.check_not(protocol, goal, [((), (), [1, 0, 1, 0, 0, 0, 0]), ((0,), (), [0, 1, 0, 0, 1, 0, 0, 0])])

    def test_promises_that_no_numbers_keep(self):
        protocol = one(promise=[above(bound(), members()), above(0, bound())])
        first = ((), (), [1, 0, 0, 1, 0])
        behind = ((0,), None, [0, 1, 0, 0, 1, 0])
        self.check(protocol, [], [first, behind])
        self.check(protocol, [], [((), (), [1, 1, 0, 1, 0]), ((0,), None, [0, 2, 1, 0, 2, 0])])
        self.check(protocol, [], [((), (), [0, 1, 0, 0, 0]), behind])
        self.check(protocol, [], [first, ((0,), (), [0, 1, 0, 0, 1, 0])])
        self.check_not(protocol, [], [first, ((0,), None, [0, 1, 0, 0, 0, 0])])
        self.check_not(protocol, [], [first])
        self.check_not(protocol, [], [behind])
        self.check_not(protocol, [], [first, behind, ((0,), (), [0, 1, 0, 0, 1, 0])])
        self.check_not(protocol, [], [((), None, [1, 0, 0, 1, 0])])
        self.check_not(protocol, [], [((), None, [1, 0, 0, 1, 0]), first, behind])

    def test_an_order_that_ends_the_list(self):
        # nobody says the voice that the condition wants of all
        rules = [Rule("on", "a", "b", [at_least(heard("x"), members())]), Rule("back", "b", "c")]
        mute = Scheme(["a", "b", "c"], ["a"], rules, faults="silent")
        goal = [at_least(at("b") + at("c"), 1)]
        first = ((), (), [1, 0, 0, 0])
        self.check(mute, goal, [first, ((0,), None, [1, 0, 0, 1])])
        self.check(mute, goal, [first, ((0,), (), [1, 0, 0, 0, 1])])
        self.check_not(mute, goal, [first])
        for weights in ([1, 0, 0, 0], [0, 0, 0, 1], [1, 0, 0, 0, 1], [1, 0, 1], [0, 1, 0, 0]):
            self.check_not(mute, goal, [first, ((0,), None, weights)])
        self.check_not(mute, goal, [first, ((0,), (), [1, 0, 0, 1])])

    def test_an_order_that_can_come_does_not_end_the_list(self):
        for weights in itertools.product(range(3), repeat=4):
            told = [ECHO_PAPER[0], ((0,), None, list(weights)), ECHO_PAPER[2], ECHO_PAPER[4]]
            self.check_not(echo(), NOBODY_BEGINS, told)

    def test_nothing_stands_behind_an_end(self):
        both = [at_least(heard("x"), members()), at_least(heard("y"), members())]
        protocol = Scheme(["a", "b"], ["a"], [Rule("on", "a", "b", both)], faults="silent")
        goal = [at_least(at("b"), 1)]
        first = ((), (), [1, 0, 0, 0])
        x_ends, y_ends = [((number,), None, [1, 0, 0, 1]) for number in range(2)]
        x_stays, both_end = ((0,), (), [1, 0, 0, 0, 1]), ((0, 1), None, [1, 0, 0, 0, 1])
        self.check(protocol, goal, [first, x_ends, y_ends])
        self.check(protocol, goal, [both_end, y_ends, first, x_stays])
        self.check_not(protocol, goal, [first, x_ends])
        self.check_not(protocol, goal, [first, x_ends, y_ends, both_end])
        self.check_not(protocol, goal, [first, x_ends, y_ends, ((0, 1), (), [1, 0, 0, 0, 0, 1])])
        self.check_not(protocol, goal, [first, x_stays, y_ends])
        # numbers that no condition has
        for number in (2, -1, -2, 7):
            for few in (None, (), (number,)):
                for weights in ([1, 0, 0, 1], [1, 0, 0, 0, 1], [1, 0, 0, 0, 0, 1]):
                    triple = ((number,), few, weights)
                    self.assertIs(is_paper(protocol, goal, [first, x_ends, y_ends, triple]), False)
                    self.assertIs(is_paper(protocol, goal, [first, triple, y_ends]), False)
        self.check_not(protocol, goal, [first, x_stays, y_ends, both_end, ((0, 1, 0), None, [1, 0, 0, 0, 0, 1])])

    def test_voices_count_in_the_stages_ahead_alone(self):
        met = [at_least(heard("x"), members())]
        told = [((), (), [1, 0, 0, 0]), ((0,), None, [1, 0, 0, 1])]
        # who says the voice has heard it of all, so nobody does
        protocol = Scheme(["a", "b", "c"], ["a"], [Rule("on", "a", "c", met, ["x"])], faults="silent")
        self.check(protocol, [at_least(at("c"), 1)], told)
        rules = [Rule("say", "a", "b", says=["x"]), Rule("on", "b", "c", met)]
        self.check_not(protocol.but(rules=rules), [at_least(at("c"), 1)], told)
        self.assertIsNone(paper(protocol.but(rules=rules), [at_least(at("c"), 1)]))

    def test_few_and_barred_places(self):
        goal = [at_least(at("b"), 1), above(said("x"), bound())]
        told = [
            ((), (), [1, 0, 0, 0, 0]),
            ((), (0,), [0, 1, 1, 0, 0, 0]),
            ((0,), (), [0, 1, 0, 0, 0, 0]),
            ((0,), (0,), [0, 0, 1, 1, 0, 0, 0]),
        ]
        self.check(one(), goal, told, calm=True)
        self.assertIsNotNone(reach(one(), goal))
        # at b a member may stand with few, and without few it is barred; at a it is barred in any case
        self.check_not(one(), goal, [told[0], ((), (0,), [1, 0, 0, 0, 0, 0]), *told[2:]], calm=True)
        self.check_not(one(), goal, [*told[:2], ((0,), (), [0, 0, 1, 0, 0, 0]), told[3]], calm=True)
        a_alone = [(order, few, [*order, 1, *few, 0, 0, 0]) for order, few, _ in told]
        self.check(one(), [at_least(at("a"), 1)], a_alone, calm=True)
        for left in range(4):
            self.check_not(one(), goal, told[:left] + told[left + 1 :], calm=True)
        self.check_not(one(), goal, told)
        self.check_not(one(), goal, [told[0], told[2]], calm=True)

    def test_few_ascend(self):
        rules = [Rule("on", "a", "b", [at_least(heard("x"), bound())]), Rule("off", "b", "c", [above(heard("y"), 0)])]
        protocol = Scheme(["a", "b", "c"], ["a"], rules)
        goal = [above(0, bound())]
        told = paper(protocol, goal, calm=True)
        self.check(protocol, goal, told, calm=True)
        row = [triple[:2] for triple in told].index(((), (0, 1)))
        for few in [(1, 0), (0, 0, 1), (0,), (0, 2), (0, True), ("a", "b")]:
            changed = [*told[:row], ((), few, told[row][2]), *told[row + 1 :]]
            self.assertIs(is_paper(protocol, goal, changed, calm=True), False)

    def test_few_are_all_choices_and_no_other_ones(self):
        protocol = Scheme(["a", "b"], ["a"], [Rule("on", "a", "b", [at_least(heard("x"), members())])], faults="silent")
        goal = [at_least(at("b"), 1)]
        told = paper(protocol, goal, calm=True)
        self.check(protocol, goal, told, calm=True)
        weights = {few: weights for order, few, weights in told if order == ()}
        self.assertEqual(sorted(weights), [(), (0,)])
        for few in [(1,), (-1,), (0, 0), (True,), (False,), ((),), "a"]:
            self.assertIs(is_paper(protocol, goal, [*told, ((), few, weights[(0,)])], calm=True), False)
        for few in [(0,), (0, 0), (1,)]:
            plain = paper(protocol, goal)
            self.assertIs(is_paper(protocol, goal, [*plain, ((), few, weights[(0,)])]), False)

    def test_no_way_at_all(self):
        # nobody may stay at the beginning if the condition is surely met, and nobody may leave it ahead of this
        protocol = Scheme(["a", "b"], ["a"], [Rule("on", "a", "b", [at_least(heard("x"), bound())])])
        goal = [above(0, bound())]
        for faults in made.FAULTS:
            last = [0, 0, 0, 0] if faults == "stopping" else [0, 0, 0]
            told = [
                ((), (), [0, *last]),
                ((), (0,), [1, 0, *last]),
                ((0,), (), [0, 1, *last]),
                ((0,), (0,), [0, 1, 0, *last]),
            ]
            if faults == "stopping":
                # who has stopped has gone a way
                self.check_not(protocol.but(faults=faults), goal, told, calm=True)
                told[0] = ((), (), [1, *last])
            self.check(protocol.but(faults=faults), goal, told, calm=True)
            self.check_not(protocol.but(faults=faults), goal, [((), (), last), *told[1:]], calm=True)
            self.check_not(protocol.but(faults=faults), goal, [((), (), [-1, *last]), *told[1:]], calm=True)

    def test_lies_are_heard_once_in_a_condition_of_several_sorts(self):
        # 2 * heard >= n: f liars are heard 2 f times in the sum, so f at least half of n is wanted
        rules = [Rule("on", "a", "b", [at_least(2 * heard("x", "y"), members())])]
        protocol = Scheme(["a", "b"], ["a"], rules)
        goal = [at_least(at("b"), 1), above(members(), 2 * faulty())]
        told = [((), (), [1, 0, 0, 0, 0]), ((0,), (), [1, 0, 1, 0, 0, 0])]
        self.check(protocol, goal, told)
        self.check_not(protocol, goal, [told[0], ((0,), (), [1, 0, 2, 0, 0, 0])])
        self.assertIsNone(paper(protocol, [goal[0], at_least(members(), 2 * faulty())]))


class MadeUp(unittest.TestCase):
    """Told papers of made up protocols, and these with something changed, held against a look of the tests' own."""

    def papers(self, source, many):
        """So many papers, and whatever it takes to find them."""
        while many > 0:
            calm = source.random() < 0.5
            if source.random() < 0.3:
                protocol = made.vote(source)
                _, goal = made.vote_wishes(source)[0]
            else:
                places, rules = source.randint(1, 7), source.randint(0, 8)
                conditions = source.randint(0, 3 if calm else 4)
                protocol = made.protocol(source, places=places, rules=rules, conditions=conditions)
                goal = made.goal(source, protocol)
            told = paper(protocol, goal, calm=calm)
            self.assertEqual(told is None, reach(protocol, goal, calm=calm) is not None)
            if told is not None:
                many -= 1
                yield protocol, goal, told, calm

    def test_told_papers(self):
        for protocol, goal, told, calm in self.papers(random.Random(1), 120):
            before = copy.deepcopy(told)
            self.assertTrue(has_kinds(told, calm))
            self.assertIs(is_paper(protocol, goal, told, calm=calm), True)
            self.assertTrue(weighing.is_paper(protocol, goal, told, calm))
            self.assertIs(is_paper(protocol, goal, lists(told), calm=calm), True)
            self.assertIs(is_paper(protocol, goal, tuples(told), calm=calm), True)
            again = paper(protocol, goal, calm=calm)
            self.assertEqual(again, before)
            again[0][2].append(0)
            self.assertEqual(told, before)
            self.assertEqual(paper(protocol, goal, calm=calm), before)

    def test_changed_papers(self):
        source = random.Random(2)
        seen = {True: 0, False: 0}
        for protocol, goal, told, calm in self.papers(source, 60):
            for _ in range(20):
                changed = self.changed(source, told)
                is_one = weighing.is_paper(protocol, goal, changed, calm)
                self.assertIs(is_paper(protocol, goal, changed, calm=calm), is_one, changed)
                seen[is_one] += 1
        self.assertGreater(min(seen.values()), 100)

    def changed(self, source, told):
        changed = [[order, few, list(weights)] for order, few, weights in told]
        row = source.randrange(len(changed))
        what = source.randrange(6)
        if what == 0:
            del changed[row]
        elif what == 1:
            changed.append(changed[row])
        elif what == 2:
            source.shuffle(changed)
        elif what == 3:
            changed[row][1] = None if changed[row][1] is not None else ()
        elif what == 4:
            weights = changed[row][2]
            weights[source.randrange(len(weights))] += source.choice([-1, 1, 1, 5])
        else:
            changed[row][2] = [source.choice([2, 3]) * weight for weight in changed[row][2]]
        return changed


class WrongGoals(unittest.TestCase):
    def test_the_goal_is_looked_at_first(self):
        for function, rest in [(paper, ()), (is_paper, ("no paper",)), (reach, ())]:
            for thing in any_objects():
                if isinstance(thing, (list, tuple)) and len(thing) == 0:
                    continue
                with self.assertRaises(BadGoal) as caught:
                    function(echo(), thing, *rest)
                self.assertEqual(caught.exception.index, 0)
                with self.assertRaises(BadGoal) as caught:
                    function(echo(), [NOBODY_BEGINS[0], above(heard("echo"), bound()), thing], *rest, calm=True)
                self.assertEqual(caught.exception.index, 1)
            with self.assertRaises(BadGoal) as caught:
                function(echo(), [*NOBODY_BEGINS, at_least(at("nowhere"), 1)], *rest)
            self.assertEqual(caught.exception.index, 2)
