"""Points 3, 4 and 12 to 16: runs, standings, goals, calm."""

import copy
import unittest

from manyvoices import runs
from manyvoices.errors import BadGoal, BadRun
from manyvoices.forms import above, at, at_least, begun, bound, faulty, heard, members, said
from manyvoices.protocols import Rule, Scheme
from manyvoices.runs import is_calm, is_run, meets, standing
from tests import oracle
from tests.examples import any_objects, ballot, echo, same_kinds

BIG = 10**39

# four members, one of whom lies: one has the news, and all end
ALL_END = (
    4,
    1,
    1,
    [("old", 2), ("news", 1)],
    [("go", "tell", 1), ("go", "join", 2), ("go", "end", 3)],
)


def behind(run, *steps):
    """The run with these steps behind its steps."""
    return (*run[:4], [*run[4], *steps])


def lists(thing):
    """The same thing with a list in the place of each tuple."""
    return [lists(part) for part in thing] if isinstance(thing, (list, tuple)) else thing


def tuples(thing):
    """The same thing with a tuple in the place of each list."""
    return tuple(tuples(part) for part in thing) if isinstance(thing, (list, tuple)) else thing


class LyingRuns(unittest.TestCase):
    def test_step_by_step(self):
        protocol = echo()
        run = (4, 1, 1, [("old", 2), ("news", 1)], [])
        for step, at_places, voices in [
            (None, (2, 1, 0, 0), 0),
            (("go", "tell", 1), (2, 0, 1, 0), 1),
            (("go", "join", 1), (1, 0, 2, 0), 2),
            (("go", "end", 1), (1, 0, 1, 1), 2),
            (("go", "join", 1), (0, 0, 2, 1), 3),
            (("go", "end", 2), (0, 0, 0, 3), 3),
        ]:
            run = run if step is None else behind(run, step)
            self.assertIs(is_run(protocol, run), True)
            told = {
                "at": dict(zip(["old", "news", "sent", "done"], at_places)),
                "begun": {"old": 2, "news": 1, "sent": 0, "done": 0},
                "said": {"echo": voices},
                "cut": {"echo": 0},
                "stopped": 0,
            }
            self.assertTrue(same_kinds(standing(protocol, run), told))

    def test_liars_are_heard_where_all_others_are_not(self):
        protocol = echo()
        run = (4, 1, 1, [("old", 3), ("news", 0)], [])
        self.assertFalse(is_run(protocol, behind(run, ("go", "join", 1))))
        told = (4, 1, 1, [("old", 2), ("news", 1)], [("go", "tell", 1)])
        self.assertTrue(is_run(protocol, behind(told, ("go", "join", 1))))
        self.assertFalse(is_run(protocol.but(faults="silent"), behind(told, ("go", "join", 1))))
        honest = (4, 1, 0, [("old", 3), ("news", 1)], [("go", "tell", 1)])
        self.assertFalse(is_run(protocol, behind(honest, ("go", "join", 1))))

    def test_liars_are_heard_once_in_a_condition_of_several_sorts(self):
        rules = [Rule("go", "a", "b", [at_least(heard("x", "y"), members() - bound())], ["x", "y"])]
        protocol = Scheme(["a", "b"], ["a"], rules)
        self.assertFalse(is_run(protocol, (2, 1, 0, [("a", 2)], [("go", "go", 1)])))
        self.assertTrue(is_run(protocol, (2, 1, 1, [("a", 1)], [("go", "go", 1)])))
        self.assertFalse(is_run(protocol, (3, 1, 1, [("a", 2)], [("go", "go", 1)])))

    def test_a_rule_may_be_taken_as_the_step_begins(self):
        rules = [Rule("go", "a", "b", [at_least(heard("x"), bound())], ["x"])]
        protocol = Scheme(["a", "b"], ["a"], rules)
        # the voices of the step itself come too late for it
        self.assertFalse(is_run(protocol, (3, 1, 0, [("a", 3)], [("go", "go", 3)])))
        self.assertTrue(is_run(protocol, (3, 0, 0, [("a", 3)], [("go", "go", 3)])))
        self.assertTrue(is_run(protocol, (3, 1, 1, [("a", 2)], [("go", "go", 2)])))

    def test_nobody_stops(self):
        run = (4, 1, 1, [("old", 2), ("news", 1)], [])
        for faults in ["lying", "silent"]:
            for step in [("cut", "tell", 1), ("stop", "news", 1), ("stop", "done", 1)]:
                self.assertIs(is_run(echo(faults=faults), behind(run, step)), False)


class SilentRuns(unittest.TestCase):
    def test_step_by_step(self):
        protocol = ballot("silent")
        run = (4, 1, 1, [("yea", 3), ("nay", 0)], [("go", "vote", 2)])
        self.assertFalse(is_run(protocol, behind(run, ("go", "win", 1))))
        run = behind(run, ("go", "vote", 1))
        self.assertTrue(is_run(protocol, behind(run, ("go", "win", 2))))
        told = standing(protocol, behind(run, ("go", "win", 2)))
        self.assertEqual(told["at"], {"yea": 0, "nay": 0, "wait": 1, "won": 2, "lost": 0})
        self.assertTrue(same_kinds(told["said"], {"no": 0, "won": 2, "yes": 3}))
        self.assertTrue(same_kinds(told["cut"], {"no": 0, "won": 0, "yes": 0}))

    def test_conditions_of_several_sorts_and_of_several_voices(self):
        protocol = ballot("silent")
        run = (5, 1, 0, [("yea", 3), ("nay", 2)], [("go", "vote", 3)])
        # 2 * 3 is above 5, but 3 are not all but one
        self.assertFalse(is_run(protocol, behind(run, ("go", "win", 1))))
        self.assertTrue(is_run(protocol, behind(run, ("go", "deny", 1), ("go", "win", 4))))
        self.assertFalse(is_run(protocol, behind(run, ("go", "deny", 2), ("go", "lose", 1))))


class StoppingRuns(unittest.TestCase):
    def test_step_by_step(self):
        protocol = echo(faults="stopping")
        run = (4, 2, 2, [("old", 2), ("news", 2)], [])
        for step, at_places, voices, cut, stopped in [
            (None, (2, 2, 0, 0), 0, 0, 0),
            (("go", "tell", 1), (2, 1, 1, 0), 1, 0, 0),
            (("cut", "tell", 1), (2, 0, 1, 0), 1, 1, 1),
            (("go", "end", 1), (2, 0, 0, 1), 1, 1, 1),
            (("stop", "done", 1), (2, 0, 0, 0), 1, 1, 2),
        ]:
            run = run if step is None else behind(run, step)
            self.assertIs(is_run(protocol, run), True)
            told = {
                "at": dict(zip(["old", "news", "sent", "done"], at_places)),
                "begun": {"old": 2, "news": 2, "sent": 0, "done": 0},
                "said": {"echo": voices},
                "cut": {"echo": cut},
                "stopped": stopped,
            }
            self.assertTrue(same_kinds(standing(protocol, run), told))
        for step in [("cut", "join", 1), ("stop", "old", 1)]:
            self.assertFalse(is_run(protocol, behind(run, step)))

    def test_all_members_begin(self):
        protocol = echo(faults="stopping")
        self.assertTrue(is_run(protocol, (4, 1, 1, [("old", 2), ("news", 2)], [])))
        self.assertFalse(is_run(protocol, (4, 1, 1, [("old", 2), ("news", 1)], [])))
        self.assertFalse(is_run(echo(), (4, 1, 1, [("old", 2), ("news", 2)], [])))
        self.assertFalse(is_run(echo(faults="silent"), (4, 1, 1, [("old", 2), ("news", 2)], [])))

    def test_no_voices_more_are_heard(self):
        protocol = echo(faults="stopping")
        run = (4, 1, 1, [("old", 3), ("news", 1)], [("go", "tell", 1)])
        self.assertFalse(is_run(protocol, behind(run, ("go", "join", 1))))

    def test_at_most_f_stop_in_all(self):
        protocol = echo(faults="stopping")
        run = (9, 3, 3, [("old", 4), ("news", 5)], [("go", "tell", 1)])
        for steps, so in [
            ([("stop", "old", 3)], True),
            ([("stop", "old", 4)], False),
            ([("cut", "tell", 3)], True),
            ([("cut", "tell", 4)], False),
            ([("stop", "old", 1), ("cut", "tell", 1), ("stop", "sent", 1)], True),
            ([("stop", "old", 1), ("cut", "tell", 1), ("stop", "news", 2)], False),
            ([("stop", "old", 2), ("cut", "tell", 2)], False),
        ]:
            with self.subTest(steps):
                self.assertIs(is_run(protocol, behind(run, *steps)), so)

    def test_cut_where_a_rule_may_be_taken(self):
        protocol = echo(faults="stopping")
        run = (9, 3, 3, [("old", 4), ("news", 5)], [])
        self.assertFalse(is_run(protocol, behind(run, ("cut", "join", 1))))
        self.assertFalse(is_run(protocol, behind(run, ("go", "tell", 3), ("cut", "join", 1))))
        self.assertTrue(is_run(protocol, behind(run, ("go", "tell", 4), ("cut", "join", 1))))
        self.assertFalse(is_run(protocol, behind(run, ("cut", "end", 1))))


class WhatIsNoRun(unittest.TestCase):
    def test_any_objects(self):
        for protocol in (echo(), ballot("stopping")):
            for thing in any_objects():
                with self.subTest(thing=thing):
                    self.assertIs(is_run(protocol, thing), False)

    def test_any_object_in_the_place_of_a_part(self):
        protocol = echo()
        self.assertTrue(is_run(protocol, ALL_END))
        for thing in [*any_objects(), 2, 3, "old", "go"]:
            for part in range(5):
                run = list(ALL_END)
                run[part] = thing
                so = type(thing) is int and thing == ALL_END[part] or part == 4 and thing in ([], ())
                so = so and type(thing) is not bool
                with self.subTest(thing=thing, part=part):
                    self.assertIs(is_run(protocol, run), so)

    def test_any_object_in_a_pair_or_a_step(self):
        protocol = echo()
        for thing in any_objects():
            with self.subTest(thing=thing):
                for begun_ in [
                    [thing, ("news", 1)],
                    [("old", 2), thing],
                    [("old", 2), (thing, 1)],
                    [("old", thing), ("news", 3)],
                ]:
                    so = begun_ == [("old", 0), ("news", 3)] and thing is not False
                    self.assertIs(is_run(protocol, (4, 1, 1, begun_, [])), so)
                start = (4, 1, 1, [("old", 2), ("news", 1)])
                for step in [thing, (thing, "tell", 1), ("go", thing, 1), ("go", "tell", thing)]:
                    so = step == ("go", "tell", 1) and thing is not True
                    self.assertIs(is_run(protocol, (*start, [step])), so)
                stopping = echo(faults="stopping")
                start = (4, 1, 1, [("old", 2), ("news", 2)])
                for step in [("stop", thing, 1), ("cut", thing, 1), (thing, "old", 1), ("stop", "old", thing)]:
                    so = step == ("stop", "old", 1) and thing is not True
                    self.assertIs(is_run(stopping, (*start, [step])), so)

    def test_truth_values_are_no_integers(self):
        protocol = echo()
        good = (1, 0, 0, [("old", 0), ("news", 1)], [("go", "tell", 1)])
        self.assertTrue(is_run(protocol, good))
        for run in [
            (True, 0, 0, *good[3:]),
            (1, False, 0, *good[3:]),
            (1, 0, False, *good[3:]),
            (1, 0, 0, [("old", False), ("news", 1)], good[4]),
            (1, 0, 0, [("old", 0), ("news", True)], good[4]),
            (*good[:4], [("go", "tell", True)]),
        ]:
            self.assertIs(is_run(protocol, run), False)

    def test_tuples_and_lists_for_one_another(self):
        for run in (lists(ALL_END), tuples(ALL_END), (*lists(ALL_END)[:4], tuples(ALL_END[4]))):
            self.assertIs(is_run(echo(), run), True)
            self.assertTrue(same_kinds(standing(echo(), run), standing(echo(), ALL_END)))
            self.assertIs(meets(echo(), run, [at_least(at("done"), 1)]), True)
            self.assertIs(is_calm(echo(), run), True)

    def test_lengths(self):
        protocol = echo()
        for run in [
            ALL_END[:4],
            (*ALL_END, []),
            (4, 1, 1, [("old", 3)], []),
            (4, 1, 1, [("old", 2), ("news", 1), ("sent", 0)], []),
            (4, 1, 1, [("old", 2, 0), ("news", 1)], []),
            (4, 1, 1, [("old",), ("news", 1)], []),
            (4, 1, 1, ALL_END[3], [("go", "tell")]),
            (4, 1, 1, ALL_END[3], [("go", "tell", 1, 1)]),
            (4, 1, 1, ALL_END[3], [()]),
            (4, 1, 1, ALL_END[3], "ab"),
            (4, 1, 1, ALL_END[3], {}),
            (4, 1, 1, {"old": 2, "news": 1}, []),
        ]:
            with self.subTest(run):
                self.assertIs(is_run(protocol, run), False)

    def test_numbers_of_members(self):
        protocol = Scheme(["a"], ["a"], [])
        for n in range(-1, 5):
            for t in range(-1, 6):
                for f in range(-1, 6):
                    so = 0 <= f <= t <= n and f < n
                    self.assertIs(is_run(protocol, (n, t, f, [("a", n - f)], [])), so)
                    so = so and f == 0
                    self.assertIs(is_run(protocol.but(faults="stopping"), (n, t, f, [("a", n - f)], [])), so)

    def test_promises(self):
        protocol = echo(promise=[above(members(), 3 * bound()), at_least(bound(), 1)])
        for n in range(1, 9):
            for t in range(n + 1):
                run = (n, t, 0, [("old", n), ("news", 0)], [])
                self.assertIs(is_run(protocol, run), n > 3 * t and t >= 1)
                self.assertIs(is_run(echo(), run), True)

    def test_beginnings(self):
        protocol = echo()
        for begun_ in [
            [("news", 1), ("old", 2)],
            [("old", 2), ("old", 1)],
            [("old", 2), ("sent", 1)],
            [("old", 2), ("news", 2)],
            [("old", 2), ("news", 0)],
            [("old", 4), ("news", -1)],
            [],
        ]:
            self.assertIs(is_run(protocol, (4, 1, 1, begun_, [])), False)
        self.assertTrue(is_run(protocol, (4, 1, 1, [("old", 3), ("news", 0)], [])))
        self.assertTrue(is_run(protocol, (4, 1, 1, [("old", 0), ("news", 3)], [])))
        turned = Scheme(["a", "b"], ["b", "a"], [])
        self.assertTrue(is_run(turned, (3, 0, 0, [("b", 1), ("a", 2)], [])))
        self.assertFalse(is_run(turned, (3, 0, 0, [("a", 1), ("b", 2)], [])))

    def test_steps(self):
        protocol = echo()
        start = (4, 1, 1, [("old", 2), ("news", 1)], [])
        for step in [
            ("go", "tell", 2),
            ("go", "tell", 0),
            ("go", "tell", -1),
            ("go", "nobody", 1),
            ("go", "news", 1),
            ("go", "end", 1),
            ("take", "tell", 1),
            ("go", "tell", None),
            ("tell", "go", 1),
        ]:
            self.assertIs(is_run(protocol, behind(start, step)), False)
        stopping = echo(faults="stopping")
        start = (4, 1, 1, [("old", 2), ("news", 2)], [])
        for step in [("stop", "sent", 1), ("stop", "nowhere", 1), ("stop", "tell", 1), ("cut", "news", 1)]:
            self.assertIs(is_run(stopping, behind(start, step)), False)
        self.assertFalse(is_run(protocol, behind(ALL_END, ("go", "end", 1))))


class ManyMembers(unittest.TestCase):
    def test_forty_digits(self):
        protocol = echo()
        run = (
            4 * BIG + 1,
            BIG,
            BIG,
            [("old", 3 * BIG), ("news", 1)],
            [("go", "tell", 1), ("go", "join", 3 * BIG), ("go", "end", 3 * BIG)],
        )
        self.assertTrue(is_run(protocol, run))
        told = standing(protocol, run)
        self.assertEqual(told["at"], {"old": 0, "news": 0, "sent": 1, "done": 3 * BIG})
        self.assertEqual(told["said"], {"echo": 3 * BIG + 1})
        self.assertTrue(meets(protocol, run, [above(at("done"), 2 * bound()), at_least(at("sent"), 1)]))
        self.assertFalse(meets(protocol, run, [above(at("done"), 3 * bound())]))
        # one voice of all but t lacks
        fewer = (*run[:4], [("go", "tell", 1), ("go", "join", 2 * BIG - 1), ("go", "end", 1)])
        self.assertFalse(is_run(protocol, fewer))
        enough = (*run[:4], [("go", "tell", 1), ("go", "join", 2 * BIG), ("go", "end", 1)])
        self.assertTrue(is_run(protocol, enough))

    def test_just_above(self):
        rules = [Rule("x", "a", "b", says=["v"]), Rule("y", "a", "c", [above(2 * heard("v"), members())])]
        protocol = Scheme(["a", "b", "c"], ["a"], rules, faults="silent")
        for n in (2 * BIG, 2 * BIG + 1):
            for many in (BIG - 1, BIG, BIG + 1):
                run = (n, 0, 0, [("a", n)], [("go", "x", many), ("go", "y", 1)])
                self.assertIs(is_run(protocol, run), 2 * many > n)


class Standings(unittest.TestCase):
    def test_an_empty_run(self):
        protocol = ballot("lying")
        told = standing(protocol, (1, 0, 0, [("yea", 1), ("nay", 0)], []))
        places = ["yea", "nay", "wait", "won", "lost"]
        sorts = {"no": 0, "won": 0, "yes": 0}
        here = {place: int(place == "yea") for place in places}
        self.assertTrue(
            same_kinds(told, {"at": here, "begun": here, "said": sorts, "cut": sorts, "stopped": 0})
        )

    def test_no_sorts(self):
        protocol = Scheme(["b", "a"], ["a"], [])
        told = standing(protocol, (2, 1, 1, [("a", 1)], ()))
        self.assertTrue(
            same_kinds(
                told, {"at": {"b": 0, "a": 1}, "begun": {"b": 0, "a": 1}, "said": {}, "cut": {}, "stopped": 0}
            )
        )

    def test_sorts_that_are_only_heard(self):
        protocol = Scheme(["a", "b"], ["a"], [Rule("x", "a", "b", [at_least(heard("c", "b"), 1)])])
        self.assertEqual(standing(protocol, (1, 0, 0, [("a", 1)], []))["said"], {"b": 0, "c": 0})

    def test_new_dicts_each_time(self):
        one, other = standing(echo(), ALL_END), standing(echo(), ALL_END)
        self.assertEqual(one, other)
        parts = [told[key] for told in (one, other) for key in ("at", "begun", "said", "cut")] + [one, other]
        self.assertEqual(len({id(part) for part in parts}), 10)
        empty = standing(echo(), (1, 0, 0, [("old", 1), ("news", 0)], []))
        self.assertIsNot(empty["at"], empty["begun"])
        one["at"].clear()
        self.assertEqual(standing(echo(), ALL_END), other)

    def test_arguments_stay_as_they_are(self):
        protocol, run, goal = echo(), lists(ALL_END), [at_least(at("done"), 1)]
        kept = copy.deepcopy(run)
        for _ in range(2):
            is_run(protocol, run), standing(protocol, run), meets(protocol, run, goal), is_calm(protocol, run)
        self.assertEqual(run, kept)
        self.assertEqual(goal, [at_least(at("done"), 1)])
        self.assertEqual(protocol, echo())

    def test_by_name(self):
        protocol = echo()
        self.assertTrue(is_run(thing=ALL_END, protocol=protocol))
        self.assertEqual(standing(run=ALL_END, protocol=protocol), standing(protocol, ALL_END))
        self.assertTrue(meets(goal=[], run=ALL_END, protocol=protocol))
        self.assertTrue(is_calm(run=ALL_END, protocol=protocol))

    def test_no_runs(self):
        protocol = echo()
        bad = [*any_objects(), behind(ALL_END, ("go", "end", 1)), lists(behind(ALL_END, ("stop", "done", 1)))]
        for thing in bad:
            with self.subTest(thing=thing):
                for ask in (standing, is_calm, lambda p, r: meets(p, r, []), lambda p, r: meets(p, r, None)):
                    with self.assertRaises(BadRun) as caught:
                        ask(protocol, thing)
                    self.assertIs(caught.exception.thing, thing)


class Goals(unittest.TestCase):
    def test_met_and_not(self):
        protocol = echo()
        run = behind((4, 1, 1, [("old", 2), ("news", 1)], []), ("go", "tell", 1), ("go", "join", 1))
        for goal, so in [
            ([], True),
            ((), True),
            ([at_least(at("sent"), 1)], True),
            ([at_least(at("done"), 1)], False),
            ([at_least(at("sent"), 1), at_least(at("done"), 1)], False),
            ((at_least(at("done"), 1), at_least(at("sent"), 1)), False),
            ([at_least(at("sent"), 2 * begun("news"))], True),
            ([above(at("sent"), 2 * begun("news"))], False),
            ([at_least(begun("old"), 2 * begun("news")), at_least(at("old"), 1)], True),
            ([at_least(said("echo"), members() - 2 * bound())], True),
            ([above(said("echo"), members() - 2 * bound())], False),
            ([at_least(faulty(), bound()), at_least(bound(), 1)], True),
            ([above(members() - faulty(), at("sent"))], True),
            ([above(members() - faulty(), at("sent") + at("old"))], False),
            ([at_least(0, begun("sent") + begun("done"))], True),
            ([at_least(begun("sent"), 1)], False),
            ([at_least(0, said("nothing"))], True),
            ([at_least(said("nothing"), 0)], True),
            ([at_least(said("nothing"), 1)], False),
            ([at_least(at("old") + at("news") + at("sent") + at("done"), members() - faulty())], True),
        ]:
            with self.subTest([comparison.terms() for comparison in goal]):
                self.assertIs(meets(protocol, run, goal), so)

    def test_voices_in_full_alone_count(self):
        protocol = echo(faults="stopping")
        run = (4, 1, 1, [("old", 2), ("news", 2)], [("cut", "tell", 1)])
        self.assertFalse(meets(protocol, run, [at_least(said("echo"), 1)]))
        self.assertTrue(meets(protocol, behind(run, ("go", "tell", 1)), [at_least(said("echo"), 1)]))

    def test_members_that_have_stopped_stand_nowhere(self):
        protocol = echo(faults="stopping")
        run = (4, 1, 1, [("old", 2), ("news", 2)], [("stop", "old", 1)])
        all_stand = at_least(at("old") + at("news") + at("sent") + at("done"), members())
        self.assertTrue(meets(protocol, (*run[:4], []), [all_stand]))
        self.assertFalse(meets(protocol, run, [all_stand]))
        self.assertTrue(meets(protocol, run, [at_least(begun("old"), begun("news"))]))

    def test_no_goals(self):
        protocol = echo()
        good = at_least(at("done"), 1)
        for thing in [
            *any_objects(),
            at_least(heard("echo"), 1),
            at_least(at("done") + heard("echo"), 1),
            at_least(at("nowhere"), 1),
            at_least(at("done"), begun("nowhere")),
            at_least(begun("echo"), 1),
            at("done"),
        ]:
            if thing == at_least(said("echo"), 1):
                continue
            with self.subTest(thing=thing):
                for goal, index in [([thing], 0), ((good, good, thing, None), 2)]:
                    with self.assertRaises(BadGoal) as caught:
                        meets(protocol, ALL_END, goal)
                    self.assertTrue(same_kinds(caught.exception.index, index))

    def test_no_list(self):
        for thing in [*any_objects(), at_least(at("done"), 1)]:
            if isinstance(thing, (list, tuple)) and len(thing) == 0:
                continue
            with self.subTest(thing=thing):
                with self.assertRaises(BadGoal) as caught:
                    meets(echo(), ALL_END, thing)
                self.assertTrue(same_kinds(caught.exception.index, 0))


class Calm(unittest.TestCase):
    def test_at_rest_where_all_have_ended(self):
        protocol = echo()
        # with one voice, no more than t, nobody surely goes on
        for many, so in enumerate([False, True, False, True]):
            run = (*ALL_END[:4], ALL_END[4][:many])
            self.assertIs(is_calm(protocol, run), so)

    def test_a_rule_without_conditions(self):
        self.assertFalse(is_calm(echo(), (1, 0, 0, [("old", 0), ("news", 1)], [])))
        self.assertTrue(is_calm(echo(), (1, 0, 0, [("old", 1), ("news", 0)], [])))

    def test_what_may_be_met_need_not_be_met_surely(self):
        # one liar helps one of them to the end, and may leave the others alone
        protocol = echo()
        run = (3, 1, 1, [("old", 1), ("news", 1)], [("go", "tell", 1), ("go", "end", 1)])
        self.assertTrue(is_run(protocol, run))
        self.assertTrue(is_calm(protocol, run))
        self.assertTrue(is_run(protocol, behind(run, ("go", "join", 1))))
        self.assertFalse(is_calm(protocol, behind(run, ("go", "join", 1))))
        goal = [at_least(at("done"), 1), above(members() - faulty(), at("done"))]
        self.assertTrue(meets(protocol, run, goal))

    def test_voices_not_in_full_are_not_surely_heard(self):
        protocol = echo(faults="stopping")
        run = (3, 1, 1, [("old", 2), ("news", 1)], [("cut", "tell", 1)])
        self.assertFalse(is_run(protocol, behind(run, ("go", "join", 1))))
        protocol = Scheme(
            ["a", "b", "c"],
            ["a", "b"],
            [Rule("x", "a", "c", (), ["v"]), Rule("y", "b", "c", [at_least(heard("v"), 1)])],
            faults="stopping",
        )
        run = (3, 1, 1, [("a", 1), ("b", 2)], [("cut", "x", 1)])
        self.assertTrue(is_calm(protocol, run))
        self.assertTrue(is_run(protocol, behind(run, ("go", "y", 1))))
        self.assertTrue(is_calm(protocol, behind(run, ("go", "y", 1))))
        self.assertFalse(is_calm(protocol, (*run[:4], [("go", "x", 1)])))
        self.assertTrue(is_calm(protocol, (*run[:4], [("go", "x", 1), ("go", "y", 2)])))

    def test_all_conditions_of_a_rule(self):
        protocol = ballot("silent")
        run = (5, 1, 0, [("yea", 3), ("nay", 2)], [("go", "vote", 3), ("go", "deny", 1)])
        self.assertFalse(is_calm(protocol, run))
        self.assertFalse(is_calm(protocol, behind(run, ("go", "deny", 1))))
        self.assertTrue(is_calm(protocol, behind(run, ("go", "deny", 1), ("go", "win", 5))))
        even = (4, 1, 0, [("yea", 2), ("nay", 2)], [("go", "vote", 2), ("go", "deny", 2)])
        self.assertTrue(is_calm(protocol, even))


class AllSmallRuns(unittest.TestCase):
    """Every run of few members and steps, against the oracle that counts anew."""

    def test_against_the_oracle(self):
        for faults in ["lying", "silent", "stopping"]:
            for protocol in (echo(faults=faults), ballot(faults)):
                for run in oracle.runs(protocol, 3, 2):
                    self.assertIs(is_run(protocol, run), True)
                    self.assertTrue(same_kinds(standing(protocol, run), oracle.told(protocol, run)))
                    self.assertIs(is_calm(protocol, run), oracle.calm(protocol, run))
                    for step in oracle.steps(protocol, run[0]):
                        so = oracle.may_follow(protocol, run, step)
                        self.assertIs(is_run(protocol, behind(run, step)), so, (run, step))


class Interface(unittest.TestCase):
    def test_names_are_defined_in_this_file(self):
        for name in ["is_run", "standing", "meets", "is_calm"]:
            self.assertEqual(getattr(runs, name).__module__, "manyvoices.runs")
