"""Papers looked at anew, by the words of points 18 to 20: member by member through all stages, early or late."""

import itertools

from tests import oracle


def is_paper(protocol, goal, told, calm):
    """Whether a list of triples (order, few, weights), of the right kinds, is a paper."""
    count = len(protocol.conditions())
    if calm:
        all_few = {few for size in range(count + 1) for few in itertools.combinations(range(count), size)}
    else:
        all_few = {()}
    keys = [(tuple(order), few if few is None else tuple(few)) for order, few, _ in told]
    with_few = {order for order, few in keys if few is not None}
    if len(set(keys)) < len(keys) or () not in with_few:
        return False
    for order, few in keys:
        longer = [(*order, number) for number in range(count) if number not in order]
        if len(set(order)) < len(order) or not set(order) <= set(range(count)):
            return False
        if order and order[:-1] not in with_few:
            return False
        if few is None and (not order or order in with_few):
            return False
        if few is not None:
            if {other for same, other in keys if same == order} != all_few:
                return False
            if not set(longer) <= {other for other, _ in keys}:
                return False
    return all(bars(protocol, goal, order, few, weights, calm) for order, few, weights in told)


class Sums:
    """The rows of an order, a goal and a few, summed up with weights."""

    def __init__(self, protocol, goal, order, few, weights, calm):
        self.protocol = protocol
        self.order = order
        conditions = [oracle.parts(condition) for condition in protocol.conditions()]
        self.needs = {
            rule.name: {protocol.conditions().index(condition) for condition in rule.when}
            for rule in protocol.rules()
        }
        self.n = self.t = self.f = self.constant = self.stopped = 0
        # voices by sort: in full in whatever stage, and (stage ahead of which, times) for the order
        self.terms, self.ahead = {}, []
        self.left = list(weights)
        for place, number in enumerate(order):
            sorts, k, a, b, d = conditions[number]
            weight = self.left.pop(0)
            self.add(weight, -a, -b, k if protocol.faults == "lying" else 0, d)
            self.ahead.append((place + 1, sorts, k * weight))
        for comparison in [*protocol.promise(), *goal]:
            weight, told = self.left.pop(0), dict(comparison.terms())
            self.add(weight, told.pop(("n",), 0), told.pop(("t",), 0), told.pop(("f",), 0), comparison.constant)
            self.count(weight, told)
        for number in few:
            sorts, k, a, b, d = conditions[number]
            weight = self.left.pop(0)
            self.add(weight, a, b, 0, 1 - d)
            self.count(weight, {("said", sort): -k for sort in sorts})
        self.add(self.left.pop(0), 0, 1, -1, 0)
        self.add(self.left.pop(0), 1, -1, 0, 0)
        self.add(self.left.pop(0), 1, 0, -1, 1)
        if protocol.faults == "stopping":
            self.stopped = -self.left[0]
            self.add(self.left.pop(0), 0, 0, 1, 0)
        self.barred = {
            rule.start for rule in protocol.rules() if calm and not self.needs[rule.name] & set(few)
        }

    def add(self, weight, n, t, f, constant):
        self.n += weight * n
        self.t += weight * t
        self.f += weight * f
        self.constant += weight * constant

    def count(self, weight, told):
        for term, integer in told.items():
            self.terms[term] = self.terms.get(term, 0) + weight * integer

    def voices(self, rule, stage, in_full):
        """The worth of what a rule says in a stage."""
        heard = sum(
            times * len([sort for sort in rule.says if sort in sorts])
            for ahead, sorts, times in self.ahead
            if stage < ahead
        )
        return heard + sum(self.terms.get(("said", sort), 0) for sort in rule.says if in_full)

    def best_from(self, place, stage):
        """The greatest worth of what is still to come from a place in a stage, or None if no way ends well."""
        found = []
        stopping = self.protocol.faults == "stopping"
        if place not in self.barred:
            found.append(self.terms.get(("at", place), 0))
        if stopping:
            found.append(self.stopped)
        if stage < len(self.order):
            found.append(self.best_from(place, stage + 1))
        for rule in self.protocol.rules():
            if rule.start == place and self.needs[rule.name] <= set(self.order[:stage]):
                behind = self.best_from(rule.end, stage)
                if behind is not None:
                    found.append(self.voices(rule, stage, True) + behind)
                if stopping:
                    found.append(self.voices(rule, stage, False) + self.stopped)
        return max((worth for worth in found if worth is not None), default=None)

    def best(self):
        found = [(self.terms.get(("begun", place), 0), self.best_from(place, 0)) for place in self.protocol.begins()]
        return max((first + behind for first, behind in found if behind is not None), default=None)


def how_many(protocol, goal, order, few):
    """How many weights there are."""
    last = 4 if protocol.faults == "stopping" else 3
    if few is None:
        return len(order) + len(protocol.promise()) + last
    return len(order) + len(protocol.promise()) + len(goal) + len(few) + last


def bars(protocol, goal, order, few, weights, calm):
    if len(weights) != how_many(protocol, goal, order, few) or min(weights) < 0:
        return False
    if few is None:
        sums = Sums(protocol, [], order, (), weights, False)
    else:
        sums = Sums(protocol, goal, order, few, weights, calm)
    best = sums.best()
    if best is None:
        return True
    lasting = sums.f if protocol.faults == "stopping" else sums.n + sums.f
    return sums.t <= 0 and sums.n + best <= 0 and lasting <= 0 and sums.constant > 0
