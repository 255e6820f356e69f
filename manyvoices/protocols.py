"""Rules, and the protocols that are made of them."""

from manyvoices.errors import BadBegins, BadCondition, BadFaults, BadPlaces, BadPromise, BadRule, BadWord, NoRule
from manyvoices.forms import Comparison
from manyvoices.kinds import first_unfit, is_list, is_word

MOST_PLACES = 7
MOST_RULES = 8
FAULTS = ("lying", "silent", "stopping")


class Rule:
    """Leads a member from one place to another one."""

    def __init__(self, name, start, end, when=(), says=()):
        for word in (name, start, end):
            if not is_word(word):
                raise BadWord(word)
        if not is_list(says):
            raise BadWord(says)
        index = first_unfit(says)
        if index is not None:
            raise BadWord(says[index])
        index = _first_without(is_condition, when)
        if index is not None:
            raise BadCondition(index)
        self.name = name
        self.start = start
        self.end = end
        self.when = tuple(when)
        self.says = tuple(sorted(says))

    def __eq__(self, other):
        return (
            isinstance(other, Rule)
            and self.name == other.name
            and self.start == other.start
            and self.end == other.end
            and self.when == other.when
            and self.says == other.says
        )


class Scheme:
    """A protocol: places, where members begin, rules, promises, and what the faulty ones do."""

    def __init__(self, places, begins, rules, *, promise=(), faults="lying"):
        if not is_list(places) or not 1 <= len(places) <= MOST_PLACES or first_unfit(places) is not None:
            raise BadPlaces(places)
        if not is_list(begins) or len(begins) == 0 or not _are_begins(begins, places):
            raise BadBegins(begins)
        index = _first_bad_rule(places, rules)
        if index is not None:
            raise BadRule(index)
        index = _first_without(_is_promise, promise)
        if index is not None:
            raise BadPromise(index)
        if faults not in FAULTS:
            raise BadFaults(faults)
        self._places = tuple(places)
        self._begins = tuple(begins)
        self._rules = tuple(rules)
        self._promises = tuple(promise)
        self.faults = faults

    def places(self):
        """Returns the list of the places."""
        return list(self._places)

    def begins(self):
        """Returns the list of the places at which members begin."""
        return list(self._begins)

    def rules(self):
        """Returns the list of the rules."""
        return list(self._rules)

    def promise(self):
        """Returns the list of the promises."""
        return list(self._promises)

    def sorts(self):
        """Returns the ascending list of all sorts that are said or heard."""
        sorts = []
        for rule in self._rules:
            sorts.extend(rule.says)
            for condition in rule.when:
                sorts.extend(heard_term(condition)[1:])
        return sorted(set(sorts))

    def conditions(self):
        """Returns the list of all unlike conditions, in the order of the rules."""
        conditions = []
        for rule in self._rules:
            for condition in rule.when:
                if condition not in conditions:
                    conditions.append(condition)
        return conditions

    def rule(self, name):
        """Returns the rule with this name."""
        for rule in self._rules:
            if rule.name == name:
                return rule
        raise NoRule(name)

    def but(self, *, rules=None, promise=None, faults=None):
        """Returns the protocol in which what is passed stands for what is here."""
        return Scheme(
            self._places,
            self._begins,
            self._rules if rules is None else rules,
            promise=self._promises if promise is None else promise,
            faults=self.faults if faults is None else faults,
        )

    def __eq__(self, other):
        return (
            isinstance(other, Scheme)
            and self._places == other._places
            and self._begins == other._begins
            and self._rules == other._rules
            and self._promises == other._promises
            and self.faults == other.faults
        )


def is_condition(thing):
    """Tells whether a thing is a comparison that a rule may have as a condition."""
    if not isinstance(thing, Comparison):
        return False
    others = [(term, integer) for term, integer in thing.terms() if term[0] not in ("n", "t")]
    if len(others) != 1:
        return False
    term, integer = others[0]
    return term[0] == "heard" and integer > 0


def heard_term(condition):
    """Returns the term of the voices that are heard in a condition: ("heard", sort, ..)."""
    # heard is the last of the kinds, so its term is the last one
    term, _ = condition.terms()[-1]
    return term


def _is_promise(thing):
    return isinstance(thing, Comparison) and all([term[0] in ("n", "t") for term, _ in thing.terms()])


def _first_without(test, things):
    """Returns the index of the first thing for which a test does not hold, 0 if things is no list, or None."""
    if not is_list(things):
        return 0
    for index, thing in enumerate(things):
        if not test(thing):
            return index
    return None


def _are_begins(begins, places):
    return first_unfit(begins) is None and all([place in places for place in begins])


def _first_bad_rule(places, rules):
    """Returns the index of the first thing that is no rule that may stand there, 0 for no list, or None."""
    if not is_list(rules):
        return 0
    for index, rule in enumerate(rules):
        if index >= MOST_RULES or not _may_stand(places, rules[:index], rule):
            return index
    return None


def _may_stand(places, earlier, thing):
    if not isinstance(thing, Rule) or thing.name in [rule.name for rule in earlier]:
        return False
    if thing.start not in places or thing.end not in places:
        return False
    behind = _places_linked([(rule.start, rule.end) for rule in earlier], thing.end)
    if thing.start in behind:
        return False
    ahead = _places_linked([(rule.end, rule.start) for rule in earlier], thing.start)
    return not _says_twice(thing, earlier, ahead, behind)


def _places_linked(steps, place):
    """Returns the places to which steps, pairs of places, lead from a place, with this place itself."""
    linked = [place]
    last = [place]
    while last:
        last = [end for start, end in steps if start in last and end not in linked]
        linked = linked + last
    return linked


def _says_twice(new, earlier, ahead, behind):
    """Tells whether some way by a new rule, and perhaps earlier ones, says a sort twice.

    None does by the earlier rules alone. ahead holds the places from which
    ways lead to the start of the new rule, behind those to which they lead
    from its end.
    """
    ones = [new, *[rule for rule in earlier if rule.end in ahead]]
    others = [new, *[rule for rule in earlier if rule.start in behind]]
    for one in ones:
        for other in others:
            if one.name != other.name and any([sort in one.says for sort in other.says]):
                return True
    return False
