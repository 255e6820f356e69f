"""Points 3, 4, 10, 11 and 35: protocols."""

import random
import unittest

from manyvoices.errors import BadBegins, BadFaults, BadPlaces, BadPromise, BadRule, NoRule
from manyvoices.forms import above, at, at_least, bound, faulty, heard, members, said
from manyvoices.protocols import Rule, Scheme
from tests.examples import any_objects, ballot, echo, same_kinds

SEVEN = ["a", "b", "c", "d", "e", "f", "g"]
WIDE = above(members(), 3 * bound())


def row(*ends, says=()):
    """Rules r0, r1, .. from the first place to the second, and so on."""
    return [Rule("r" + "abcdefghi"[k], ends[k], ends[k + 1], says=says) for k in range(len(ends) - 1)]


class Told(unittest.TestCase):
    def test_echo(self):
        protocol = echo()
        self.assertTrue(same_kinds(protocol.places(), ["old", "news", "sent", "done"]))
        self.assertTrue(same_kinds(protocol.begins(), ["old", "news"]))
        self.assertEqual([rule.name for rule in protocol.rules()], ["tell", "join", "end"])
        self.assertTrue(same_kinds(protocol.promise(), []))
        self.assertEqual(protocol.faults, "lying")
        self.assertTrue(same_kinds(protocol.sorts(), ["echo"]))
        self.assertTrue(
            same_kinds(
                protocol.conditions(),
                [above(heard("echo"), bound()), at_least(heard("echo"), members() - bound())],
            )
        )
        self.assertEqual(
            protocol.rule("join"), Rule("join", "old", "sent", [above(heard("echo"), bound())], ["echo"])
        )

    def test_lists_as_they_were_passed(self):
        rules = [Rule("z", "c", "a"), Rule("y", "b", "a")]
        protocol = Scheme(("c", "a", "b"), ("b", "c"), tuple(rules), promise=(WIDE,), faults="silent")
        self.assertTrue(same_kinds(protocol.places(), ["c", "a", "b"]))
        self.assertTrue(same_kinds(protocol.begins(), ["b", "c"]))
        self.assertTrue(same_kinds(protocol.rules(), rules))
        self.assertTrue(same_kinds(protocol.promise(), [WIDE]))
        self.assertEqual(protocol.faults, "silent")

    def test_by_name(self):
        protocol = Scheme(faults="stopping", promise=[], rules=[], begins=["a"], places=["a"])
        self.assertEqual(protocol, Scheme(["a"], ["a"], [], faults="stopping"))
        self.assertEqual(echo().rule(name="end"), echo().rule("end"))

    def test_behind_the_star_by_name_alone(self):
        with self.assertRaises(TypeError):
            Scheme(["a"], ["a"], [], [])
        with self.assertRaises(TypeError):
            echo().but([])

    def test_sorts_that_are_said_or_heard(self):
        rules = [
            Rule("x", "a", "b", [at_least(heard("z", "m"), 1)], ["q"]),
            Rule("y", "b", "c", [at_least(heard("b"), 1)], ["z", "a"]),
        ]
        self.assertTrue(same_kinds(Scheme(SEVEN, ["a"], rules).sorts(), ["a", "b", "m", "q", "z"]))
        self.assertTrue(same_kinds(Scheme(SEVEN, ["a"], []).sorts(), []))

    def test_unlike_conditions_in_the_order_of_the_rules(self):
        first, second, third = at_least(heard("c"), 1), at_least(heard("b"), 1), at_least(heard("a"), 1)
        rules = [
            Rule("x", "a", "b", [second, first, above(heard("b"), 0)]),
            Rule("y", "a", "b", [third, first]),
            Rule("z", "b", "c", [second]),
        ]
        self.assertTrue(same_kinds(Scheme(SEVEN, ["a"], rules).conditions(), [second, first, third]))
        self.assertEqual(Scheme(SEVEN, ["a"], rules[1:]).conditions(), [third, first, second])
        self.assertEqual(Scheme(SEVEN, ["a"], []).conditions(), [])

    def test_new_lists_each_time(self):
        protocol = ballot("lying")
        for name in ["places", "begins", "rules", "promise", "sorts", "conditions"]:
            tell = getattr(protocol, name)
            ahead = tell()
            self.assertIsNot(ahead, tell())
            tell().clear()
            self.assertTrue(len(ahead) > 0)
            self.assertEqual(tell(), ahead)

    def test_arguments_are_copied(self):
        places, begins, rules, promise = ["a", "b"], ["b"], [Rule("x", "a", "b")], [WIDE]
        protocol = Scheme(places, begins, rules, promise=promise)
        self.assertEqual((places, begins, rules, promise), (["a", "b"], ["b"], [Rule("x", "a", "b")], [WIDE]))
        for argument in (places, begins, rules, promise):
            argument.clear()
        self.assertEqual(protocol.places(), ["a", "b"])
        self.assertEqual(protocol.begins(), ["b"])
        self.assertEqual(protocol.rules(), [Rule("x", "a", "b")])
        self.assertEqual(protocol.promise(), [WIDE])

    def test_no_such_rule(self):
        protocol = echo()
        for thing in any_objects():
            with self.subTest(thing=thing):
                with self.assertRaises(NoRule) as caught:
                    protocol.rule(thing)
                self.assertIs(caught.exception.name, thing)


class Places(unittest.TestCase):
    def refused(self, *arguments, **more):
        with self.assertRaises(BadPlaces) as caught:
            Scheme(*arguments, **more)
        self.assertIs(caught.exception.words, arguments[0])

    def test_one_and_seven(self):
        self.assertEqual(Scheme(["abcdefgh"], ["abcdefgh"], []).places(), ["abcdefgh"])
        self.assertEqual(Scheme(SEVEN, SEVEN, []).begins(), SEVEN)

    def test_no_such_lists(self):
        good = ("a", "b", 1)
        for thing in [
            *any_objects(),
            [*SEVEN, "h"],
            ["a", "b", "a"],
            ["a", "B"],
            ["a", True],
            good,
            "abc",
            {"a": 1},
        ]:
            with self.subTest(thing=thing):
                self.refused(thing, None, None, promise=None, faults=None)

    def test_begins(self):
        for thing in [*any_objects(), ["a", "a"], ["a", "h"], ["b", "a", "b"], ["a", None], "a", {"a": 1}]:
            with self.subTest(thing=thing):
                with self.assertRaises(BadBegins) as caught:
                    Scheme(SEVEN, thing, None, promise=None, faults=None)
                self.assertIs(caught.exception.words, thing)


def may_stand(rules):
    """Whether no way by these rules comes back to a place or says a sort twice: each way is walked."""

    def walk(place, been, heard):
        for rule in rules:
            if rule.start == place:
                if rule.end in been or set(rule.says) & heard:
                    return False
                if not walk(rule.end, been | {rule.end}, heard | set(rule.says)):
                    return False
        return True

    return all(walk(place, {place}, set()) for place in SEVEN)


class RulesThatMayStand(unittest.TestCase):
    def refused(self, rules, index, places=SEVEN, **more):
        for given in (rules, tuple(rules)):
            with self.assertRaises(BadRule) as caught:
                Scheme(places, ["a"], given, **more)
            self.assertTrue(same_kinds(caught.exception.index, index))

    def test_no_list(self):
        for thing in [thing for thing in any_objects() if not isinstance(thing, (list, tuple))]:
            with self.subTest(thing=thing):
                with self.assertRaises(BadRule) as caught:
                    Scheme(SEVEN, ["a"], thing, promise=None, faults=None)
                self.assertTrue(same_kinds(caught.exception.index, 0))

    def test_no_rules(self):
        for thing in any_objects():
            if isinstance(thing, Rule):
                continue
            with self.subTest(thing=thing):
                self.refused([thing], 0)
                self.refused([Rule("x", "a", "b"), thing, thing], 1, promise=None, faults=None)

    def test_a_name_of_an_earlier_one(self):
        rule = Rule("x", "a", "b")
        self.refused([rule, rule], 1)
        self.refused([rule, Rule("y", "a", "b"), Rule("x", "b", "c")], 2)

    def test_no_place(self):
        self.refused([Rule("x", "h", "a")], 0)
        self.refused([Rule("x", "a", "h")], 0)
        self.refused([Rule("x", "a", "b"), Rule("y", "b", "h")], 1)

    def test_back_to_its_start_by_itself(self):
        self.refused([Rule("x", "a", "a")], 0)
        self.refused([Rule("x", "a", "b"), Rule("y", "c", "c")], 1)

    def test_back_to_its_start_with_earlier_ones(self):
        self.refused([Rule("x", "a", "b"), Rule("y", "b", "a")], 1)
        self.refused(row("a", "b", "c", "d", "e", "f", "g", "a"), 6)
        self.refused([*reversed(row("a", "b", "c", "d", "b"))], 2)
        rules = [Rule("x", "a", "b"), Rule("y", "a", "c"), Rule("z", "b", "d"), Rule("w", "c", "d")]
        self.refused([*rules, Rule("v", "d", "b"), Rule("v", "a", "b")], 4)
        self.assertEqual(Scheme(SEVEN, ["a"], rules).rules(), rules)

    def test_ways_beside_one_another(self):
        rules = [Rule("x", "a", "b", (), ["q"]), Rule("y", "a", "b", (), ["q"]), Rule("z", "b", "c", (), ["r"])]
        self.assertEqual(Scheme(SEVEN, ["a"], rules).rules(), rules)

    def test_a_sort_said_twice_on_a_way(self):
        self.refused(row("a", "b", "c", says=["q"]), 1)
        self.refused([*reversed(row("a", "b", "c", says=["q"]))], 1)
        far = row("a", "b", "c", "d", "e", "f")
        first, last = Rule("first", "a", "b", (), ["p", "q"]), Rule("last", "e", "f", (), ["q", "r"])
        self.refused([first, *far[1:4], last, Rule("no", "a", "z")], 4)

    def test_a_rule_that_says_nothing_may_join_two_that_say_the_same(self):
        first, last = Rule("first", "a", "b", (), ["q"]), Rule("last", "c", "d", (), ["q"])
        self.assertEqual(Scheme(SEVEN, ["a"], [last, first]).rules(), [last, first])
        self.refused([first, last, Rule("join", "b", "c")], 2)
        self.refused([last, first, Rule("x", "b", "e"), Rule("y", "f", "c"), Rule("z", "e", "f")], 4)

    def test_any_place_may_be_on_a_way(self):
        # nobody can come to d, but a way may begin anywhere
        self.refused([Rule("x", "d", "e", (), ["q"]), Rule("y", "e", "f", (), ["q"])], 1)

    def test_eight_rules_and_nine(self):
        rules = [Rule("r" + letter, "a", "b") for letter in "abcdefghij"]
        self.assertEqual(Scheme(SEVEN, ["a"], rules[:8]).rules(), rules[:8])
        self.refused(rules[:9], 8)
        self.refused(rules, 8)
        self.refused([*rules[:8], None], 8)
        self.refused([*rules[:5], None, *rules[5:]], 5)

    def test_made_up(self):
        source = random.Random(10)
        refused = 0
        for _ in range(1500):
            rules = []
            for name in "abcdefgh"[: source.randint(2, 8)]:
                start, end = source.sample("abcde", 2)
                start, end = (start, end) if source.random() < 0.2 else sorted((start, end))
                rules.append(Rule(name, start, end, (), source.sample("pqrs", source.choice([0, 0, 1, 1, 2]))))
            index = next((index for index in range(len(rules)) if not may_stand(rules[: index + 1])), None)
            if index is None:
                self.assertEqual(Scheme(SEVEN, ["a"], rules).rules(), rules)
            else:
                refused += 1
                self.refused(rules, index)
        self.assertTrue(400 < refused < 1200)

    def test_ways_of_many_rules(self):
        rules = row("a", "b", "c", "d", "e", "f", "g")
        self.assertEqual(Scheme(SEVEN, ["a"], rules).rules(), rules)


class PromisesAndFaults(unittest.TestCase):
    def test_promises(self):
        promises = [WIDE, at_least(bound(), 1), at_least(members(), 2 * bound())]
        self.assertEqual(echo(promise=promises).promise(), promises)
        self.assertEqual(echo(promise=tuple(promises)).promise(), promises)

    def test_no_promises(self):
        for thing in [
            *any_objects(),
            at_least(members(), faulty()),
            at_least(members(), at("old")),
            at_least(heard("echo"), members()),
            at_least(said("echo"), bound()),
            at_least(members(), at("n")),
            at_least(said("t"), 1),
            members() - bound(),
        ]:
            with self.subTest(thing=thing):
                for promise, index in [([thing], 0), ((WIDE, WIDE, thing, thing), 2)]:
                    with self.assertRaises(BadPromise) as caught:
                        echo(promise=promise, faults=None)
                    self.assertTrue(same_kinds(caught.exception.index, index))

    def test_no_list_of_promises(self):
        for thing in [*any_objects(), WIDE]:
            if isinstance(thing, (list, tuple)) and len(thing) == 0:
                continue
            with self.assertRaises(BadPromise) as caught:
                echo(promise=thing)
            self.assertTrue(same_kinds(caught.exception.index, 0))

    def test_faults(self):
        for word in ["lying", "silent", "stopping"]:
            self.assertEqual(echo(faults=word).faults, word)
        for thing in [*any_objects(), "Lying", "stop", "lying ", ["lying"], ("lying", "silent", "stopping")]:
            with self.subTest(thing=thing):
                with self.assertRaises(BadFaults) as caught:
                    echo(faults=thing)
                self.assertIs(caught.exception.word, thing)

    def test_the_first_error_is_raised(self):
        good = [["a"], ["a"], [], [], "lying"]
        for errors in [(BadPlaces, BadBegins, BadRule, BadPromise, BadFaults)]:
            for first, error in enumerate(errors):
                told = [*good[:first], *[None] * (5 - first)]
                with self.assertRaises(error):
                    Scheme(told[0], told[1], told[2], promise=told[3], faults=told[4])


class But(unittest.TestCase):
    def test_what_is_passed_stands_for_what_was_there(self):
        protocol = echo()
        rules = [Rule("go", "news", "done")]
        self.assertEqual(protocol.but(rules=rules), Scheme(["old", "news", "sent", "done"], ["old", "news"], rules))
        self.assertEqual(protocol.but(promise=(WIDE,)), echo(promise=[WIDE]))
        self.assertEqual(protocol.but(faults="stopping"), echo(faults="stopping"))
        changed = protocol.but(faults="silent", promise=[WIDE], rules=())
        self.assertEqual(changed.rules(), [])
        self.assertEqual(changed.promise(), [WIDE])
        self.assertEqual(changed.faults, "silent")
        self.assertEqual(protocol, echo())

    def test_what_is_not_passed_stays(self):
        protocol = ballot("stopping")
        self.assertEqual(protocol.but(), protocol)
        self.assertEqual(protocol.but(rules=None, promise=None, faults=None), protocol)
        self.assertEqual(protocol.but(promise=[]).promise(), [])
        self.assertEqual(protocol.but(promise=[]).rules(), protocol.rules())
        self.assertEqual(protocol.but(rules=[]).promise(), protocol.promise())
        self.assertEqual(protocol.but(rules=[]).faults, "stopping")
        self.assertEqual(protocol.but(rules=[]).rules(), [])

    def test_errors(self):
        protocol = ballot("stopping")
        for more, error, field, value in [
            ({"rules": 5, "promise": 5, "faults": 5}, BadRule, "index", 0),
            ({"rules": [*protocol.rules(), Rule("x", "a", "b")]}, BadRule, "index", 4),
            ({"rules": [], "promise": [WIDE, 5], "faults": 5}, BadPromise, "index", 1),
            ({"promise": (), "faults": ""}, BadFaults, "word", ""),
            ({"faults": False}, BadFaults, "word", False),
            ({"promise": False}, BadPromise, "index", 0),
        ]:
            with self.assertRaises(error) as caught:
                protocol.but(**more)
            self.assertTrue(same_kinds(getattr(caught.exception, field), value))
        self.assertEqual(protocol, ballot("stopping"))


class EqualProtocols(unittest.TestCase):
    def test_equal(self):
        for made in (echo, lambda: ballot("silent")):
            self.assertIs(made() == made(), True)
            self.assertIs(made() != made(), False)
        self.assertEqual(Scheme(("a", "b"), ("a",), (), promise=(WIDE,)), Scheme(["a", "b"], ["a"], [], promise=[WIDE]))

    def test_unlike(self):
        rules = [Rule("x", "a", "b"), Rule("y", "a", "b")]
        one = Scheme(["a", "b"], ["a", "b"], rules, promise=[WIDE, at_least(bound(), 1)])
        for other in [
            Scheme(["b", "a"], ["a", "b"], rules, promise=one.promise()),
            Scheme(["a", "b", "c"], ["a", "b"], rules, promise=one.promise()),
            Scheme(["a", "b"], ["b", "a"], rules, promise=one.promise()),
            one.but(rules=rules[::-1]),
            one.but(rules=rules[:1]),
            one.but(promise=one.promise()[::-1]),
            one.but(promise=[]),
            one.but(faults="silent"),
        ]:
            self.assertIs(one == other, False)
            self.assertIs(one != other, True)

    def test_a_protocol_equals_nothing_else(self):
        protocol = ballot("lying")
        for thing in [*any_objects(), protocol.places(), protocol.rules()]:
            self.assertIs(protocol == thing, False)
            self.assertIs(thing == protocol, False)
            self.assertIs(protocol != thing, True)
