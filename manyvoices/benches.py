"""Benches: a protocol that changes by deeds, with wishes that are watched."""

from manyvoices.changes import with_condition
from manyvoices.errors import BadCondition, BadDeed, BadRule, BadWish, BadWord, NameInUse, NoName
from manyvoices.goals import CALM, is_wish
from manyvoices.kinds import is_list, is_word
from manyvoices.protocols import Rule, Scheme, is_condition
from manyvoices.reaching import reach
from manyvoices.wishes import broken, check_index, mending_thresholds

PUT = "put"
DROP = "drop"
TURN = "turn"
PROMISE = "promise"
UNDER = "under"
# how long the tuple of a deed is, by its word
LENGTHS = {"put": 2, "drop": 2, "turn": 4, "promise": 2, "under": 2}


class Bench:
    """Keeps a protocol that changes by deeds, and watches wishes by names."""

    def __init__(self, protocol):
        self.protocol = protocol
        self._wishes = {}
        self._holding = {}
        # pairs of a deed and the protocol ahead of it, or, if it is taken back, behind it
        self._done = []
        self._undone = []

    def watch(self, name, wish):
        """Watches a wish under a name; tells whether it holds now."""
        if not is_word(name):
            raise BadWord(name)
        if name in self._wishes:
            raise NameInUse(name)
        if not is_wish(self.protocol, wish):
            raise BadWish(0)
        word, goal = wish
        holds = not broken(self.protocol, [wish])
        self._wishes[name] = (word, tuple(goal))
        self._holding[name] = holds
        return holds

    def unwatch(self, name):
        """Ends the watching of the wish with this name."""
        self._check_name(name)
        del self._wishes[name]
        del self._holding[name]

    def watched(self):
        """Returns the dict from the names, ascending, to the wishes."""
        return {name: (self._wishes[name][0], list(self._wishes[name][1])) for name in sorted(self._wishes)}

    def holds(self):
        """Returns the dict from the names, ascending, to whether the wish holds now."""
        return {name: self._holding[name] for name in sorted(self._holding)}

    def shown(self, name):
        """Returns a run that breaks the wish with this name, or None if it holds."""
        self._check_name(name)
        word, goal = self._wishes[name]
        return reach(self.protocol, goal, calm=word == CALM)

    def put(self, rule):
        """Puts a rule in the place of the one with its name, or behind all others; returns the news."""
        return self._do((PUT, rule))

    def drop(self, name):
        """Takes the rule with this name out; returns the news."""
        return self._do((DROP, name))

    def turn(self, name, index, condition):
        """Exchanges the condition with this index of the rule with this name; returns the news."""
        return self._do((TURN, name, index, condition))

    def promise(self, promise):
        """Sets the promises; returns the news."""
        return self._do((PROMISE, promise))

    def under(self, word):
        """Sets the faults; returns the news."""
        return self._do((UNDER, word))

    def undo(self):
        """Takes the last deed back that is not taken back; returns the news, or None if there is none."""
        if not self._done:
            return None
        deed, ahead = self._done.pop()
        self._undone.append((deed, self.protocol))
        return self._become(ahead)

    def again(self):
        """Does the last deed again that was taken back; returns the news, or None if there is none."""
        if not self._undone:
            return None
        deed, behind = self._undone.pop()
        self._done.append((deed, self.protocol))
        return self._become(behind)

    def deeds(self):
        """Returns the list of the deeds that are not taken back."""
        return [_copied(deed) for deed, _ in self._done]

    def would(self, deeds):
        """Returns the dict that holds() would tell behind these deeds, done one after another."""
        index = _first_no_deed(deeds)
        if index is not None:
            raise BadDeed(index)
        protocol = self.protocol
        for deed in deeds:
            protocol = _behind(protocol, deed)
        return self._held_by(protocol)

    def trial(self, work):
        """Calls work with this bench and returns what it returns; behind it the bench is as ahead of it."""
        protocol = self.protocol
        wishes = dict(self._wishes)
        holding = dict(self._holding)
        done = list(self._done)
        undone = list(self._undone)
        try:
            return work(self)
        finally:
            self.protocol, self._wishes, self._holding = protocol, wishes, holding
            self._done, self._undone = done, undone

    def twin(self):
        """Returns a new bench that is as this one is, without anything that can be done again."""
        other = Bench(self.protocol)
        other._wishes = dict(self._wishes)
        other._holding = dict(self._holding)
        other._done = list(self._done)
        return other

    def mends(self):
        """Returns the list of the changes of one threshold by one after which all watched wishes hold."""
        return mending_thresholds(self.protocol, list(self._wishes.values()))

    def _check_name(self, name):
        if not is_word(name) or name not in self._wishes:
            raise NoName(name)

    def _do(self, deed):
        ahead = self.protocol
        behind = _behind(ahead, deed)
        self._done.append((_copied(deed), ahead))
        self._undone = []
        return self._become(behind)

    def _become(self, protocol):
        """Makes this the present protocol; returns the news."""
        ahead = self._holding
        self.protocol = protocol
        self._holding = self._held_by(protocol)
        return [(name, holds) for name, holds in self._holding.items() if holds != ahead[name]]

    def _held_by(self, protocol):
        """Returns the dict from the names, ascending, to whether the wish holds for a protocol."""
        names = sorted(self._wishes)
        not_held = broken(protocol, [self._wishes[name] for name in names])
        return {name: index not in not_held for index, name in enumerate(names)}


def _first_no_deed(deeds):
    """Returns the index of the first thing that is no deed, 0 if deeds is no list, or None."""
    if not is_list(deeds):
        return 0
    for index, thing in enumerate(deeds):
        if not _is_deed(thing):
            return index
    return None


def _is_deed(thing):
    if not is_list(thing) or len(thing) == 0:
        return False
    word = thing[0]
    return isinstance(word, str) and LENGTHS.get(word, 0) == len(thing)


def _copied(deed):
    """Returns a deed with new lists in it."""
    if deed[0] == PROMISE:
        return PROMISE, list(deed[1])
    return tuple(deed)


def _behind(protocol, deed):
    """Returns the protocol behind a deed."""
    word = deed[0]
    if word == PUT:
        return protocol.but(rules=_with_rule(protocol.rules(), deed[1]))
    if word == DROP:
        left_out = protocol.rule(deed[1])
        return protocol.but(rules=[rule for rule in protocol.rules() if rule.name != left_out.name])
    if word == TURN:
        _, name, index, condition = deed
        rule = protocol.rule(name)
        check_index(rule, index)
        if not is_condition(condition):
            raise BadCondition(index)
        return with_condition(protocol, rule, index, condition)
    promise = deed[1] if word == PROMISE else protocol.promise()
    faults = deed[1] if word == UNDER else protocol.faults
    # but() would take None for nothing passed
    return Scheme(protocol.places(), protocol.begins(), protocol.rules(), promise=promise, faults=faults)


def _with_rule(rules, rule):
    """Returns the rules with a rule in the place of the one with its name, or behind all others."""
    if not isinstance(rule, Rule):
        raise BadRule(len(rules))
    if rule.name in [other.name for other in rules]:
        return [rule if other.name == rule.name else other for other in rules]
    return [*rules, rule]
