"""Points 3, 4, 6, 7 and 8: forms and comparisons."""

import unittest

from manyvoices import forms
from manyvoices.errors import BadConstant, BadForm, BadWord, NoTerms
from manyvoices.forms import (
    Comparison,
    Form,
    above,
    at,
    at_least,
    begun,
    bound,
    faulty,
    heard,
    members,
    said,
)
from tests.examples import any_objects, echo, same_kinds


def is_integer(thing):
    return type(thing) is int


def is_word(thing):
    return type(thing) is str and 1 <= len(thing) <= 8 and set(thing) <= set("abcdefghijklmnopqrstuvwxyz")


class SingleTerms(unittest.TestCase):
    def test_each_is_its_term_once(self):
        for form, term in [
            (members(), ("n",)),
            (bound(), ("t",)),
            (faulty(), ("f",)),
            (at("old"), ("at", "old")),
            (begun("old"), ("begun", "old")),
            (said("echo"), ("said", "echo")),
            (heard("echo"), ("heard", "echo")),
            (heard("yes", "no"), ("heard", "no", "yes")),
            (heard("d", "b", "a", "c"), ("heard", "a", "b", "c", "d")),
        ]:
            with self.subTest(term):
                self.assertIsInstance(form, Form)
                self.assertTrue(same_kinds(form.terms(), [(term, 1)]))
                self.assertTrue(same_kinds(form.rest, 0))

    def test_by_name(self):
        self.assertEqual(at(place="a"), at("a"))
        self.assertEqual(begun(place="a"), begun("a"))
        self.assertEqual(said(sort="a"), said("a"))

    def test_words_of_one_and_of_eight_letters(self):
        for word in ["a", "z", "abcdefgh", "n", "t", "heard"]:
            for made in (at, begun, said, heard):
                self.assertEqual(made(word).terms(), [((made.__name__, word), 1)])

    def test_no_words(self):
        for thing in [*any_objects(), "A", "abcdefghi", "a1", "a_b", "\u0430", "a\n", " a", "\u00df"]:
            if is_word(thing):
                continue
            for made in (at, begun, said, heard):
                with self.subTest(made.__name__, thing=thing):
                    with self.assertRaises(BadWord) as caught:
                        made(thing)
                    self.assertIs(caught.exception.word, thing)

    def test_heard_names_the_first_that_is_no_word_or_stood_before(self):
        for sorts, word in [
            (("a", "a"), "a"),
            (("a", "b", "c", "b"), "b"),
            (("a", "a", 5), "a"),
            (("a", 5, "a"), 5),
            (("a", True, "a"), True),
            (("b", ["a"], "b"), ["a"]),
        ]:
            with self.subTest(sorts):
                with self.assertRaises(BadWord) as caught:
                    heard(*sorts)
                self.assertTrue(same_kinds(caught.exception.word, word))

    def test_nothing_is_heard(self):
        with self.assertRaises(BadWord) as caught:
            heard()
        self.assertTrue(same_kinds(caught.exception.word, ()))


class Sums(unittest.TestCase):
    def test_added_and_taken_away(self):
        form = members() + 2 * said("b") - 3 * at("x") + 4 - said("b")
        self.assertTrue(
            same_kinds(form.terms(), [(("n",), 1), (("at", "x"), -3), (("said", "b"), 1)])
        )
        self.assertTrue(same_kinds(form.rest, 4))

    def test_integers_on_either_side(self):
        form = members()
        self.assertEqual((form + 3).rest, 3)
        self.assertEqual((3 + form).rest, 3)
        self.assertEqual((form - 3).rest, -3)
        self.assertEqual((3 - form).rest, 3)
        self.assertEqual((3 - form).terms(), [(("n",), -1)])
        self.assertEqual((3 - (form + 5)).rest, -2)
        self.assertEqual((form * -2).terms(), [(("n",), -2)])
        self.assertEqual((-2 * form).terms(), [(("n",), -2)])
        self.assertEqual(3 + form - 3, form)

    def test_multiplied(self):
        form = 2 * (members() - 3 * bound() + 5)
        self.assertEqual(form.terms(), [(("n",), 2), (("t",), -6)])
        self.assertEqual(form.rest, 10)
        self.assertEqual((members() + 5) * 2, 2 * (5 + members()))

    def test_negated(self):
        form = -(members() - bound() + 5)
        self.assertEqual(form.terms(), [(("n",), -1), (("t",), 1)])
        self.assertEqual(form.rest, -5)
        self.assertEqual(-(-form), form)

    def test_integers_that_are_zero_are_dropped(self):
        for form in [members() - members(), 0 * members(), members() * 0, 2 * at("a") - at("a") - at("a")]:
            self.assertTrue(same_kinds(form.terms(), []))
            self.assertTrue(same_kinds(form.rest, 0))
        self.assertTrue(same_kinds((0 * (members() + 7)).rest, 0))
        self.assertEqual((members() + bound() - members()).terms(), [(("t",), 1)])

    def test_order_of_the_terms(self):
        parts = [
            members(),
            bound(),
            faulty(),
            at("a"),
            at("ab"),
            at("b"),
            begun("a"),
            begun("z"),
            said("a"),
            said("b"),
            heard("a"),
            heard("a", "b"),
            heard("a", "b", "c"),
            heard("a", "c"),
            heard("b"),
        ]
        terms = [part.terms()[0][0] for part in parts]
        ahead, back, mixed = 0, 0, 0
        for number, part in enumerate(parts):
            ahead = ahead + part
            back = part + back
            mixed = mixed + parts[number * 7 % len(parts)]
        for form in (ahead, back, mixed):
            self.assertTrue(same_kinds(form.terms(), [(term, 1) for term in terms]))

    def test_heard_of_the_same_sorts_is_one_term(self):
        self.assertEqual((heard("a", "b") + heard("b", "a")).terms(), [(("heard", "a", "b"), 2)])

    def test_large_integers(self):
        form = 999999 * members() - 999999
        self.assertEqual((form * 10**40).terms(), [(("n",), 999999 * 10**40)])
        self.assertEqual((form * 10**40).rest, -999999 * 10**40)

    def test_forms_do_not_change(self):
        one, other = members() + 1, bound() - 2
        for _ in (one + other, one - other, 3 * one, -one, at_least(said("a") + one - members(), other + 4)):
            self.assertEqual((one.terms(), one.rest), ([(("n",), 1)], 1))
            self.assertEqual((other.terms(), other.rest), ([(("t",), 1)], -2))
        kept = one
        one += 1
        self.assertEqual((kept.rest, one.rest), (1, 2))

    def test_terms_are_a_new_list_each_time(self):
        form = members()
        self.assertIsNot(form.terms(), form.terms())
        form.terms().append("x")
        self.assertEqual(form.terms(), [(("n",), 1)])

    def test_no_forms(self):
        form = members() + 1
        deeds = [
            lambda thing: form + thing,
            lambda thing: thing + form,
            lambda thing: form - thing,
            lambda thing: thing - form,
        ]
        for thing in any_objects():
            if isinstance(thing, Form) or is_integer(thing):
                continue
            for number, deed in enumerate(deeds):
                with self.subTest(thing=thing, number=number):
                    with self.assertRaises(BadForm) as caught:
                        deed(thing)
                    self.assertIs(caught.exception.thing, thing)
        self.assertEqual((form.terms(), form.rest), ([(("n",), 1)], 1))

    def test_no_factors(self):
        form = members() + 1
        for thing in any_objects():
            if is_integer(thing):
                continue
            with self.subTest(thing=thing):
                with self.assertRaises(BadForm) as caught:
                    form * thing
                self.assertIs(caught.exception.thing, thing)
                if not isinstance(thing, Form):
                    with self.assertRaises(BadForm) as caught:
                        thing * form
                    self.assertIs(caught.exception.thing, thing)

    def test_of_two_forms_multiplied_the_right_one_is_named(self):
        left, right = members(), 0 * members() + 2
        with self.assertRaises(BadForm) as caught:
            left * right
        self.assertIs(caught.exception.thing, right)
        with self.assertRaises(BadForm) as caught:
            right * left
        self.assertIs(caught.exception.thing, left)


class EqualForms(unittest.TestCase):
    def test_equal(self):
        self.assertTrue(members() + bound() == bound() + members())
        self.assertFalse(members() + bound() != bound() + members())
        self.assertTrue(at("a") - at("a") == 0 * members())

    def test_unlike(self):
        for one, other in [
            (members(), bound()),
            (members(), members() + 1),
            (members(), 2 * members()),
            (at("a"), begun("a")),
            (at("a"), at("b")),
            (heard("a"), said("a")),
            (heard("a", "b"), heard("a") + heard("b")),
        ]:
            self.assertTrue(one != other)
            self.assertFalse(one == other)

    def test_a_form_equals_nothing_else(self):
        five = 0 * members() + 5
        for thing in [5, *[thing for thing in any_objects() if not isinstance(thing, Form)]]:
            self.assertIs(five == thing, False)
            self.assertIs(thing == five, False)
            self.assertIs(five != thing, True)
            self.assertIs(members() == thing, False)
        self.assertIs(members() == members().terms(), False)


class Comparisons(unittest.TestCase):
    def told(self, comparison):
        self.assertIsInstance(comparison, Comparison)
        self.assertIs(type(comparison.constant), int)
        return comparison.terms(), comparison.constant

    def test_brought_to_one_side(self):
        comparison = at_least(heard("a"), members() - bound())
        self.assertTrue(
            same_kinds(
                self.told(comparison), ([(("n",), -1), (("t",), 1), (("heard", "a"), 1)], 0)
            )
        )
        comparison = above(members(), 3 * bound() + at("a"))
        self.assertEqual(self.told(comparison), ([(("n",), 1), (("t",), -3), (("at", "a"), -1)], 1))

    def test_the_example_of_the_document(self):
        self.assertEqual(
            self.told(above(2 * said("a"), 2 * bound())), ([(("t",), -1), (("said", "a"), 1)], 1)
        )

    def test_integers_on_one_side(self):
        self.assertEqual(self.told(at_least(at("a"), 1)), ([(("at", "a"), 1)], 1))
        self.assertEqual(self.told(at_least(0, begun("news"))), ([(("begun", "news"), -1)], 0))
        self.assertEqual(self.told(above(1, at("a"))), ([(("at", "a"), -1)], 0))
        self.assertEqual(self.told(above(at("a"), 0)), ([(("at", "a"), 1)], 1))

    def test_divided_by_the_greatest_common_divisor(self):
        self.assertEqual(
            self.told(at_least(6 * at("a") - 4 * members(), 2)), ([(("n",), -2), (("at", "a"), 3)], 1)
        )
        self.assertEqual(self.told(at_least(-4 * at("a"), -2 * members())), ([(("n",), 1), (("at", "a"), -2)], 0))
        self.assertEqual(self.told(at_least(0, 5 * at("a"))), ([(("at", "a"), -1)], 0))

    def test_the_constant_is_rounded_up(self):
        for number, constant in [(-3, 0), (-2, 0), (-1, 0), (0, 0), (1, 1), (2, 1), (3, 1), (4, 1)]:
            with self.subTest(number):
                self.assertTrue(
                    same_kinds(self.told(at_least(4 * at("a"), number)), ([(("at", "a"), 1)], constant))
                )
        for number, constant in [(-4, 0), (-1, 0), (0, 1), (3, 1)]:
            with self.subTest(number):
                self.assertEqual(self.told(above(4 * at("a"), number)), ([(("at", "a"), 1)], constant))
        self.assertEqual(self.told(at_least(7, 8 * at("a"))), ([(("at", "a"), -1)], 0))
        self.assertEqual(self.told(at_least(0, 8 * at("a") + 1)), ([(("at", "a"), -1)], 1))

    def test_it_says_the_same_as_it_did(self):
        for factor in range(-6, 7):
            for other in range(-6, 7):
                for rest in range(-8, 9):
                    for made, least in ((at_least, 0), (above, 1)):
                        try:
                            comparison = made(factor * at("a") + rest, other * at("b"))
                        except (NoTerms, BadConstant):
                            continue
                        worth = dict(comparison.terms())
                        for a in range(4):
                            for b in range(4):
                                left = worth.get(("at", "a"), 0) * a + worth.get(("at", "b"), 0) * b
                                self.assertEqual(
                                    left >= comparison.constant, factor * a + rest - other * b >= least
                                )

    def test_no_terms(self):
        for one, other in [
            (1, 0),
            (0, 0),
            (5, -7),
            (members(), members()),
            (members() + 5, members()),
            (0 * members(), 1),
        ]:
            for made in (at_least, above):
                with self.assertRaises(NoTerms):
                    made(one, other)

    def test_no_such_constant(self):
        for made, one, other, number in [
            (at_least, at("a"), 2, 2),
            (above, at("a"), 1, 2),
            (at_least, at("a"), -1, -1),
            (above, at("a"), -2, -1),
            (at_least, 4 * at("a"), 5, 2),
            (at_least, 4 * at("a"), -4, -1),
            (at_least, 0, at("a") - 7, -7),
            (at_least, members(), 10**40, 10**40),
        ]:
            with self.subTest(number):
                with self.assertRaises(BadConstant) as caught:
                    made(one, other)
                self.assertTrue(same_kinds(caught.exception.number, number))

    def test_no_forms(self):
        for made in (at_least, above):
            for thing in any_objects():
                if isinstance(thing, Form) or is_integer(thing):
                    continue
                with self.subTest(made.__name__, thing=thing):
                    for one, other in [(thing, members()), (members(), thing), (thing, None), (thing, 1)]:
                        with self.assertRaises(BadForm) as caught:
                            made(one, other)
                        self.assertIs(caught.exception.thing, thing)

    def test_by_name_and_new_lists(self):
        comparison = at_least(other=1, one=at("a"))
        self.assertEqual(comparison, at_least(at("a"), 1))
        self.assertEqual(above(other=0, one=at("a")), comparison)
        self.assertIsNot(comparison.terms(), comparison.terms())
        comparison.terms().clear()
        self.assertEqual(comparison.terms(), [(("at", "a"), 1)])

    def test_equal(self):
        self.assertTrue(at_least(2 * at("a"), 1) == above(at("a"), 0))
        self.assertFalse(at_least(2 * at("a"), 1) != above(at("a"), 0))
        self.assertTrue(at_least(at("a"), at("b")) == at_least(-3 * at("b"), -3 * at("a")))
        for other in [at_least(at("a"), 0), at_least(at("b"), 1), at_least(at("a") + at("b"), 1), above(at("a"), 2 * at("b"))]:
            self.assertTrue(at_least(at("a"), 1) != other)
            self.assertFalse(at_least(at("a"), 1) == other)

    def test_a_comparison_equals_nothing_else(self):
        comparison = at_least(at("a"), 1)
        things = [thing for thing in any_objects() if not isinstance(thing, Comparison)]
        for thing in [*things, at("a"), comparison.terms(), comparison.constant, echo()]:
            self.assertIs(comparison == thing, False)
            self.assertIs(thing == comparison, False)
            self.assertIs(comparison != thing, True)


class Interface(unittest.TestCase):
    def test_methods_stand_in_their_classes(self):
        for name in ["terms", "__add__", "__radd__", "__sub__", "__rsub__", "__mul__", "__rmul__", "__neg__", "__eq__"]:
            self.assertIn(name, vars(Form))
        for name in ["terms", "__eq__"]:
            self.assertIn(name, vars(Comparison))

    def test_names_are_defined_in_this_file(self):
        for name in ["members", "bound", "faulty", "at", "begun", "said", "heard", "at_least", "above"]:
            self.assertEqual(getattr(forms, name).__module__, "manyvoices.forms")
