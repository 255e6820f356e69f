"""Standings: where members stand, what has been said, and the steps that lead on."""

from manyvoices.errors import NoRule
from manyvoices.forms import holds
from manyvoices.kinds import is_integer, is_list, is_row
from manyvoices.protocols import heard_term


class Standing:
    """How many members of a group stand where, and how many voices have been said.

    The numbers are n, t and f; begun holds the pairs (place, many). Steps
    change the standing.
    """

    def __init__(self, protocol, numbers, begun):
        self.protocol = protocol
        self.n, self.t, self.f = numbers
        self.first = {place: 0 for place in protocol.places()}
        for place, many in begun:
            self.first[place] = many
        self.here = {place: self.first[place] for place in self.first}
        self.full = {sort: 0 for sort in protocol.sorts()}
        self.partial = {sort: 0 for sort in self.full}
        self.gone = 0

    def twin(self):
        """Returns a new standing that is as this one is."""
        other = Standing(self.protocol, (self.n, self.t, self.f), list(self.first.items()))
        other.here = dict(self.here)
        other.full = dict(self.full)
        other.partial = dict(self.partial)
        other.gone = self.gone
        return other

    def may_take(self, rule):
        """Tells whether all conditions of a rule are met as it may be."""
        return all([self.may_meet(condition) for condition in rule.when])

    def may_meet(self, condition):
        """Tells whether a condition is met as it may be."""
        term = heard_term(condition)
        voices = sum([self.full[sort] + self.partial[sort] for sort in term[1:]])
        if self.protocol.faults == "lying":
            voices += self.f
        return holds(condition, {("n",): self.n, ("t",): self.t, term: voices})

    def surely_meets(self, condition):
        """Tells whether a condition is met surely."""
        term = heard_term(condition)
        voices = sum([self.full[sort] for sort in term[1:]])
        return holds(condition, {("n",): self.n, ("t",): self.t, term: voices})

    def must_take(self, rule):
        """Tells whether somebody stands at the start of a rule all of whose conditions are met surely."""
        return self.here[rule.start] > 0 and all([self.surely_meets(condition) for condition in rule.when])

    def comes_to_rest(self):
        """Tells whether the standing is calm."""
        return not any([self.must_take(rule) for rule in self.protocol.rules()])

    def counts(self):
        """Returns the dict from the terms that a goal may have to their numbers; those that lack are 0."""
        told = {("n",): self.n, ("t",): self.t, ("f",): self.f}
        for place in self.here:
            told[("at", place)] = self.here[place]
            told[("begun", place)] = self.first[place]
        for sort in self.full:
            told[("said", sort)] = self.full[sort]
        return told

    def can_do(self, thing):
        """Tells of any object whether it is a step that can be done now."""
        if not is_row(thing, 3):
            return False
        word, name, many = thing
        if not is_integer(many) or many < 1 or not self._may_come(word, many):
            return False
        if word == "stop":
            return name in self.protocol.places() and self.here[name] >= many
        try:
            rule = self.protocol.rule(name)
        except NoRule:
            return False
        return self.here[rule.start] >= many and self.may_take(rule)

    def _may_come(self, word, many):
        """Tells whether so many members may do what a word of a step tells, wherever they stand."""
        if word in ("cut", "stop"):
            return self.protocol.faults == "stopping" and self.gone + many <= self.f
        return word == "go"

    def do(self, step):
        """Does a step that can be done now."""
        word, name, many = step
        if word != "go":
            self.gone += many
        if word == "stop":
            self.here[name] -= many
            return
        rule = self.protocol.rule(name)
        self.here[rule.start] -= many
        if word == "go":
            self.here[rule.end] += many
        voices = self.full if word == "go" else self.partial
        for sort in rule.says:
            voices[sort] += many

    def take_back(self, step):
        """Takes the last step back."""
        word, name, many = step
        self.do((word, name, -many))


def are_numbers(protocol, n, t, f):
    """Tells of any objects whether they are a number of members, of faulty ones borne, and of faulty ones."""
    if not all([is_integer(number) for number in (n, t, f)]):
        return False
    if not 0 <= f <= t <= n or f >= n:
        return False
    return all([holds(promise, {("n",): n, ("t",): t}) for promise in protocol.promise()])


def going(protocol, n, f):
    """Returns how many members begin: the faulty ones go by the rules until they stop, else not at all."""
    return n if protocol.faults == "stopping" else n - f


def replayed(protocol, thing):
    """Returns the standing behind the steps of a run, or None for any object that is no run."""
    if not is_row(thing, 5):
        return None
    n, t, f, begun, steps = thing
    if not are_numbers(protocol, n, t, f) or not _is_begun(protocol, begun, going(protocol, n, f)):
        return None
    if not is_list(steps):
        return None
    now = Standing(protocol, (n, t, f), begun)
    for step in steps:
        if not now.can_do(step):
            return None
        now.do(step)
    return now


def _is_begun(protocol, thing, many):
    """Tells of any object whether it is a list of all beginnings with their numbers, so many in all."""
    return are_pairs(thing) and [place for place, _ in thing] == protocol.begins() and begun_in_all(thing) == many


def are_pairs(thing):
    """Tells of any object whether it is a list of pairs of a thing and an integer from 0 on."""
    if not is_list(thing) or not all([is_row(pair, 2) for pair in thing]):
        return False
    return all([is_integer(number) and number >= 0 for _, number in thing])


def begun_in_all(pairs):
    """Returns how many have begun in all, by the pairs (place, many)."""
    return sum([many for _, many in pairs])
