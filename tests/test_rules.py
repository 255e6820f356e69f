"""Points 3, 4, 9 and 11: rules and their conditions."""

import unittest

from manyvoices import protocols
from manyvoices.errors import BadCondition, BadWord
from manyvoices.forms import above, at, at_least, begun, bound, faulty, heard, members, said
from manyvoices.protocols import Rule
from tests.examples import any_objects, same_kinds
from tests.test_forms import is_word

LOUD = at_least(heard("a"), 1)
MOST = above(2 * heard("a", "b"), members())


class Rules(unittest.TestCase):
    def told(self, rule):
        return rule.name, rule.start, rule.end, rule.when, rule.says

    def test_attributes(self):
        rule = Rule("go", "here", "there", [LOUD, MOST], ["c", "a", "b"])
        self.assertTrue(
            same_kinds(self.told(rule), ("go", "here", "there", (LOUD, MOST), ("a", "b", "c")))
        )

    def test_without_conditions_and_sorts(self):
        self.assertTrue(same_kinds(self.told(Rule("a", "b", "abcdefgh")), ("a", "b", "abcdefgh", (), ())))
        self.assertTrue(same_kinds(self.told(Rule("a", "b", "c", [], [])), ("a", "b", "c", (), ())))

    def test_by_name_and_with_tuples(self):
        rule = Rule(says=("b", "a"), when=(LOUD,), end="c", start="b", name="a")
        self.assertEqual(rule, Rule("a", "b", "c", [LOUD], ["a", "b"]))

    def test_arguments_are_copied(self):
        when, says = [LOUD], ["b", "a"]
        rule = Rule("a", "b", "c", when, says)
        self.assertEqual((when, says), ([LOUD], ["b", "a"]))
        when.clear()
        says.append("c")
        self.assertEqual((rule.when, rule.says), ((LOUD,), ("a", "b")))

    def test_a_condition_may_stand_twice(self):
        self.assertEqual(Rule("a", "b", "c", [LOUD, LOUD]).when, (LOUD, LOUD))

    def test_no_words(self):
        for thing in any_objects():
            if is_word(thing):
                continue
            for place in range(3):
                words = ["a", "b", "c"]
                words[place] = thing
                with self.subTest(words=words):
                    with self.assertRaises(BadWord) as caught:
                        Rule(*words, None, None)
                    self.assertIs(caught.exception.word, thing)
            with self.assertRaises(BadWord) as caught:
                Rule("a", "b", "c", None, ["d", thing, "d"])
            self.assertIs(caught.exception.word, thing)

    def test_the_first_one_is_named(self):
        for words, word in [
            (("A", "B", "C", (), ["D"]), "A"),
            (("a", "B", "C", (), ["D"]), "B"),
            (("a", "b", "C", (), ["D"]), "C"),
            (("a", "b", "c", (), ["D", "d", "d"]), "D"),
            (("a", "b", "c", [5], ["d", "e", "d", "D"]), "d"),
        ]:
            with self.assertRaises(BadWord) as caught:
                Rule(*words)
            self.assertEqual(caught.exception.word, word)

    def test_says_is_no_list(self):
        for thing in any_objects():
            if isinstance(thing, (list, tuple)):
                continue
            with self.subTest(thing=thing):
                with self.assertRaises(BadWord) as caught:
                    Rule("a", "b", "c", [None], thing)
                self.assertIs(caught.exception.word, thing)

    def test_names_of_places_and_sorts_may_be_alike(self):
        self.assertEqual(self.told(Rule("a", "a", "a", (), ["a"])), ("a", "a", "a", (), ("a",)))


class Conditions(unittest.TestCase):
    def test_what_is_one(self):
        for thing in [
            LOUD,
            MOST,
            at_least(heard("a"), members() - bound()),
            above(3 * heard("a", "b", "c", "d"), 2 * members() - 5 * bound()),
            at_least(0, bound() - heard("a")),
            at_least(heard("a") + faulty(), members() + faulty()),
            at_least(heard("n"), bound()),
            at_least(heard("n", "t"), members()),
            at_least(heard("heard"), 1),
        ]:
            self.assertEqual(Rule("a", "b", "c", [thing]).when, (thing,))

    def test_what_is_none(self):
        for thing in [
            *any_objects(),
            at_least(bound(), heard("a")),
            at_least(0, heard("a")),
            at_least(heard("a") - heard("b"), 0),
            at_least(heard("a") + heard("b"), 1),
            at_least(heard("a") + heard("a", "b"), 1),
            at_least(heard("a"), faulty()),
            at_least(heard("a"), at("b")),
            at_least(heard("a"), begun("b")),
            at_least(heard("a"), said("a")),
            at_least(heard("a"), at("n")),
            at_least(heard("a"), said("t")),
            at_least(heard("a") + heard("n"), 1),
            at_least(at("heard"), 1),
            at_least(said("a"), 1),
            at_least(members(), bound()),
            heard("a"),
        ]:
            if thing == above(heard("echo"), bound()):
                continue
            with self.subTest(thing=thing):
                for when, index in [([thing], 0), ((LOUD, MOST, thing, None), 2)]:
                    with self.assertRaises(BadCondition) as caught:
                        Rule("a", "b", "c", when)
                    self.assertTrue(same_kinds(caught.exception.index, index))

    def test_when_is_no_list(self):
        for thing in [*any_objects(), LOUD]:
            if isinstance(thing, (list, tuple)) and len(thing) == 0:
                continue
            with self.subTest(thing=thing):
                with self.assertRaises(BadCondition) as caught:
                    Rule("a", "b", "c", thing)
                self.assertTrue(same_kinds(caught.exception.index, 0))


class EqualRules(unittest.TestCase):
    def test_equal(self):
        one = Rule("a", "b", "c", [LOUD, MOST], ["d", "e"])
        other = Rule("a", "b", "c", (at_least(heard("a"), 1), MOST), ("e", "d"))
        self.assertIs(one == other, True)
        self.assertIs(one != other, False)

    def test_unlike(self):
        one = Rule("a", "b", "c", [LOUD, MOST], ["d", "e"])
        for other in [
            Rule("x", "b", "c", [LOUD, MOST], ["d", "e"]),
            Rule("a", "x", "c", [LOUD, MOST], ["d", "e"]),
            Rule("a", "b", "x", [LOUD, MOST], ["d", "e"]),
            Rule("a", "b", "c", [MOST, LOUD], ["d", "e"]),
            Rule("a", "b", "c", [LOUD], ["d", "e"]),
            Rule("a", "b", "c", [LOUD, MOST], ["d"]),
        ]:
            self.assertIs(one == other, False)
            self.assertIs(one != other, True)

    def test_a_rule_equals_nothing_else(self):
        rule = Rule("a", "b", "c")
        for thing in [*any_objects(), ("a", "b", "c", (), ())]:
            self.assertIs(rule == thing, False)
            self.assertIs(thing == rule, False)
            self.assertIs(rule != thing, True)


class Interface(unittest.TestCase):
    def test_classes(self):
        self.assertEqual(Rule.__module__, "manyvoices.protocols")
        self.assertIn("__eq__", vars(Rule))
        names = ["places", "begins", "rules", "promise", "sorts", "conditions", "rule", "but", "__eq__"]
        for name in names:
            self.assertIn(name, vars(protocols.Scheme))
        self.assertEqual(protocols.Scheme.__module__, "manyvoices.protocols")
