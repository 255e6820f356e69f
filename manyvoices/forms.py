"""Forms, sums of terms with integers, and comparisons of them."""

from math import gcd

from manyvoices.errors import BadConstant, BadForm, BadWord, NoTerms
from manyvoices.kinds import first_unfit, is_integer, is_word

KINDS = {"n": 0, "t": 1, "f": 2, "at": 3, "begun": 4, "said": 5, "heard": 6}


class Form:
    """A sum of terms with integers, and of an integer, the rest.

    It is made of the pairs (term, integer), in the order of the terms and
    with no integer 0, and of the rest.
    """

    def __init__(self, pairs, rest):
        self._pairs = tuple(pairs)
        self.rest = rest

    def terms(self):
        """Returns the list of the pairs (term, integer), in their order."""
        return list(self._pairs)

    def __eq__(self, other):
        return isinstance(other, Form) and self._pairs == other._pairs and self.rest == other.rest

    def __add__(self, other):
        return _sum(self, _as_form(other))

    def __radd__(self, other):
        return _sum(_as_form(other), self)

    def __sub__(self, other):
        return _sum(self, _times(_as_form(other), -1))

    def __rsub__(self, other):
        return _sum(_as_form(other), _times(self, -1))

    def __mul__(self, other):
        return _times(self, other)

    def __rmul__(self, other):
        return _times(self, other)

    def __neg__(self):
        return _times(self, -1)


class Comparison:
    """Says that a form without rest is at least a constant.

    It is made of the pairs (term, integer), in the order of the terms, and
    of the constant.
    """

    def __init__(self, pairs, constant):
        self._pairs = tuple(pairs)
        self.constant = constant

    def terms(self):
        """Returns the list of the pairs (term, integer), in their order."""
        return list(self._pairs)

    def __eq__(self, other):
        return isinstance(other, Comparison) and self._pairs == other._pairs and self.constant == other.constant


def members():
    """Returns the form n, the number of members."""
    return _single(("n",))


def bound():
    """Returns the form t, the number of faulty members that is borne."""
    return _single(("t",))


def faulty():
    """Returns the form f, the number of faulty members that there are."""
    return _single(("f",))


def at(place):
    """Returns the form of how many members stand at a place."""
    return _single(("at", _checked_word(place)))


def begun(place):
    """Returns the form of how many members have begun at a place."""
    return _single(("begun", _checked_word(place)))


def said(sort):
    """Returns the form of how many voices of a sort have been said in full."""
    return _single(("said", _checked_word(sort)))


def heard(*sorts):
    """Returns the form of how many voices of these sorts are heard."""
    if not sorts:
        raise BadWord(())
    index = first_unfit(sorts)
    if index is not None:
        raise BadWord(sorts[index])
    return _single(("heard", *sorted(sorts)))


def at_least(one, other):
    """Returns the comparison that one is at least the other."""
    return _compared(one, other, 0)


def above(one, other):
    """Returns the comparison that one is above the other."""
    # of integers, what is above a number is at least one more
    return _compared(one, other, 1)


def holds(comparison, counts):
    """Tells whether a comparison holds, with a dict from terms to their numbers; what it lacks is 0."""
    worth = sum([integer * counts.get(term, 0) for term, integer in comparison.terms()])
    return worth >= comparison.constant


def _checked_word(thing):
    if not is_word(thing):
        raise BadWord(thing)
    return thing


def _single(term):
    return Form([(term, 1)], 0)


def _as_form(thing):
    if isinstance(thing, Form):
        return thing
    if not is_integer(thing):
        raise BadForm(thing)
    return Form([], thing)


def _rank(term):
    return (KINDS[term[0]], term)


def _sum(one, other):
    rest = one.rest + other.rest
    if not one._pairs or not other._pairs:
        return Form(one._pairs or other._pairs, rest)
    integers = dict(one._pairs)
    for term, integer in other._pairs:
        integers[term] = integers.get(term, 0) + integer
    terms = sorted([term for term in integers if integers[term] != 0], key=_rank)
    return Form([(term, integers[term]) for term in terms], rest)


def _times(form, factor):
    if not is_integer(factor):
        raise BadForm(factor)
    pairs = [(term, integer * factor) for term, integer in form._pairs if factor != 0]
    return Form(pairs, form.rest * factor)


def _compared(one, other, least):
    """Returns the comparison that one less the other is at least the integer least."""
    form = _sum(_as_form(one), _times(_as_form(other), -1))
    pairs = form.terms()
    if not pairs:
        raise NoTerms()
    common = 0
    for _, integer in pairs:
        common = gcd(common, integer)
    # // rounds down, so what is negated ahead of it and behind it is rounded up
    constant = -((form.rest - least) // common)
    if constant not in (0, 1):
        raise BadConstant(constant)
    return Comparison([(term, integer // common) for term, integer in pairs], constant)
