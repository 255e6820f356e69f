"""Groups of told numbers of members that go on deed by deed."""

from manyvoices.errors import (
    BadBegun,
    BadGroup,
    BadMany,
    NoPlace,
    NoSort,
    NotHeard,
    NotStopping,
    NotThere,
    TooMany,
)
from manyvoices.goals import check_goal
from manyvoices.kinds import is_integer
from manyvoices.outlooks import can_come
from manyvoices.standings import Standing, are_numbers, are_pairs, begun_in_all, going

MOST_TO_LOOK_AT = 4


class Group:
    """So many members, faulty ones borne, and faulty ones, that stand somewhere and go on by deeds."""

    def __init__(self, protocol, n, t, f, begun):
        for many in (n, t, f):
            if not is_integer(many) or many < 0:
                raise BadMany(many)
        if not are_numbers(protocol, n, t, f):
            raise BadGroup()
        if not _is_begun(protocol, begun, going(protocol, n, f)):
            raise BadBegun(begun)
        self.protocol = protocol
        self._now = Standing(protocol, (n, t, f), begun)
        self._done = []
        self._undone = []

    def take(self, rule, many=1):
        """So many members take the rule with this name."""
        self._check_going(rule, many)
        self._do(("go", rule, many))

    def cut(self, rule, many=1):
        """So many members stop within the rule with this name."""
        self._check_stopping()
        self._check_going(rule, many)
        self._check_faulty(many)
        self._do(("cut", rule, many))

    def stop(self, place, many=1):
        """So many members stop at a place."""
        self._check_stopping()
        self._check_place(place)
        _check_many(many)
        self._check_there(place, many)
        self._check_faulty(many)
        self._do(("stop", place, many))

    def undo(self):
        """Takes the last deed back that is not taken back; tells whether there was one."""
        if not self._done:
            return False
        step = self._done.pop()
        self._now.take_back(step)
        self._undone.append(step)
        return True

    def again(self):
        """Does the last deed again that was taken back; tells whether there was one."""
        if not self._undone:
            return False
        step = self._undone.pop()
        self._now.do(step)
        self._done.append(step)
        return True

    def at(self, place):
        """Returns how many members stand at a place."""
        self._check_place(place)
        return self._now.here[place]

    def said(self, sort):
        """Returns how many voices of a sort have been said in full."""
        if sort not in self.protocol.sorts():
            raise NoSort(sort)
        return self._now.full[sort]

    def stopped(self):
        """Returns how many members have stopped."""
        return self._now.gone

    def may(self):
        """Returns the list of the names of the rules that somebody may take now."""
        now = self._now
        return [rule.name for rule in self.protocol.rules() if now.here[rule.start] > 0 and now.may_take(rule)]

    def must(self):
        """Returns the list of the names of the rules that somebody takes at last, by what is surely heard."""
        return [rule.name for rule in self.protocol.rules() if self._now.must_take(rule)]

    def is_calm(self):
        """Tells whether there is no rule that somebody must take."""
        return not self.must()

    def run(self):
        """Returns the run with the deeds that are not taken back as its steps."""
        now = self._now
        return now.n, now.t, now.f, self._begun(), list(self._done)

    def can(self, goal, *, calm=False):
        """Tells whether by deeds of this group a standing can come that meets a goal (and is calm)."""
        check_goal(self.protocol, goal)
        if self._now.n > MOST_TO_LOOK_AT:
            raise BadMany(self._now.n)
        return can_come(self._now, goal, calm)

    def trial(self, work):
        """Calls work with this group and returns what it returns; behind it the group is as ahead of it."""
        now = self._now.twin()
        done = list(self._done)
        undone = list(self._undone)
        try:
            return work(self)
        finally:
            self._now, self._done, self._undone = now, done, undone

    def twin(self):
        """Returns a new group that is as this one is, without anything that can be done again."""
        now = self._now
        other = Group(self.protocol, now.n, now.t, now.f, self._begun())
        other._now = now.twin()
        other._done = list(self._done)
        return other

    def _begun(self):
        return [(place, self._now.first[place]) for place in self.protocol.begins()]

    def _do(self, step):
        self._now.do(step)
        self._done.append(step)
        self._undone = []

    def _check_stopping(self):
        if self.protocol.faults != "stopping":
            raise NotStopping()

    def _check_place(self, place):
        if place not in self.protocol.places():
            raise NoPlace(place)

    def _check_there(self, place, many):
        if self._now.here[place] < many:
            raise NotThere(place)

    def _check_faulty(self, many):
        if self._now.gone + many > self._now.f:
            raise TooMany(many)

    def _check_going(self, name, many):
        """Raises an error if not so many can go by a rule now, in full or not."""
        rule = self.protocol.rule(name)
        _check_many(many)
        self._check_there(rule.start, many)
        for index, condition in enumerate(rule.when):
            if not self._now.may_meet(condition):
                raise NotHeard(index)


def _check_many(thing):
    if not is_integer(thing) or thing < 1:
        raise BadMany(thing)


def _is_begun(protocol, thing, many):
    """Tells of any object whether it is a list of pairs of unlike beginnings and numbers, so many in all."""
    if not are_pairs(thing):
        return False
    begins = protocol.begins()
    places = [place for place, _ in thing]
    if not all([place in begins for place in places]) or len(set(places)) < len(places):
        return False
    return begun_in_all(thing) == many
