"""All standings that can come with few members, by going member by member (points 12 to 14)."""

from tests import oracle


def numbers(protocol, most):
    """All triples (n, t, f) of at most so many members that a protocol lets be."""
    return [
        (n, t, f)
        for n in range(1, most + 1)
        for t in range(n + 1)
        for f in range(min(t, n - 1) + 1)
        if all(oracle.promised(promise, n, t) for promise in protocol.promise())
    ]


def standings(protocol, n, t, f):
    """All standings with these numbers, each as a dict from terms, and from ("cut", sort) and "stopped", to numbers."""
    going = n if protocol.faults == "stopping" else n - f
    found = {}
    for row in oracle.spread(protocol.begins(), going):
        first = {("n",): n, ("t",): t, ("f",): f, "stopped": 0}
        first.update({("begun", place): 0 for place in protocol.places()})
        first.update({("begun", place): many for place, many in row})
        first.update({("at", place): first[("begun", place)] for place in protocol.places()})
        first.update({(kind, sort): 0 for kind in ("said", "cut") for sort in protocol.sorts()})
        found[tuple(first.values())] = first
    todo = list(found.values())
    while todo:
        for after in followers(protocol, todo.pop()):
            key = tuple(after.values())
            if key not in found:
                found[key] = after
                todo.append(after)
    return list(found.values())


def followers(protocol, now):
    """What a standing can become by a step of one member."""
    stops = protocol.faults == "stopping" and now["stopped"] < now[("f",)]
    for rule in protocol.rules():
        if now[("at", rule.start)] > 0 and all(met(protocol, now, condition, False) for condition in rule.when):
            gone = changed(now, {("at", rule.start): -1, ("at", rule.end): 1})
            yield changed(gone, {("said", sort): 1 for sort in rule.says})
            if stops:
                cut = changed(now, {("at", rule.start): -1, "stopped": 1})
                yield changed(cut, {("cut", sort): 1 for sort in rule.says})
    for place in protocol.places():
        if stops and now[("at", place)] > 0:
            yield changed(now, {("at", place): -1, "stopped": 1})


def changed(now, more):
    after = dict(now)
    for key, many in more.items():
        after[key] += many
    return after


def met(protocol, now, condition, surely):
    sorts, k, a, b, d = oracle.parts(condition)
    voices = sum(now[("said", sort)] for sort in sorts)
    if not surely:
        voices += sum(now[("cut", sort)] for sort in sorts)
        voices += now[("f",)] if protocol.faults == "lying" else 0
    return k * voices >= a * now[("n",)] + b * now[("t",)] + d


def is_calm(protocol, now):
    return not any(
        now[("at", rule.start)] > 0 and all(met(protocol, now, condition, True) for condition in rule.when)
        for rule in protocol.rules()
    )


def worth(form, now):
    return sum(integer * now.get(term, 0) for term, integer in form.terms())


def meets(now, goal):
    return all(worth(comparison, now) >= comparison.constant for comparison in goal)


class Small:
    """All standings of a protocol with few members, looked up once."""

    def __init__(self, protocol, most):
        self.protocol = protocol
        self.found = [now for told in numbers(protocol, most) for now in standings(protocol, *told)]
        self.calm = [now for now in self.found if is_calm(protocol, now)]

    def those(self, goal, calm):
        return [now for now in (self.calm if calm else self.found) if meets(now, goal)]

    def pairs(self, goal, calm):
        """The ascending list of the pairs (n, t) with which a goal can be met."""
        return sorted({(now[("n",)], now[("t",)]) for now in self.those(goal, calm)})
