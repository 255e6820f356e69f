"""Runs and standings told anew from the words of points 12 to 16, with nothing kept between steps."""


def told(protocol, run):
    """The standing behind a run, counted step by step from the list of its steps alone."""
    _, _, _, begun, steps = run
    started = {place: sum(many for name, many in begun if name == place) for place in protocol.places()}
    rules = {rule.name: rule for rule in protocol.rules()}
    standing = {"at": {}, "begun": started, "said": {}, "cut": {}, "stopped": 0}
    for place in protocol.places():
        left = sum(many for word, name, many in steps if word != "stop" and rules[name].start == place)
        stopped = sum(many for word, name, many in steps if word == "stop" and name == place)
        come = sum(many for word, name, many in steps if word == "go" and rules[name].end == place)
        standing["at"][place] = started[place] + come - left - stopped
    for sort in protocol.sorts():
        for key, step_word in (("said", "go"), ("cut", "cut")):
            standing[key][sort] = sum(
                many for word, name, many in steps if word == step_word and sort in rules[name].says
            )
    standing["stopped"] = sum(many for word, _, many in steps if word != "go")
    return standing


def parts(condition):
    """The sorts, k, a, b and d of a condition k * heard(..) >= a n + b t + d."""
    worth = dict(condition.terms())
    (sorts,) = [term[1:] for term in worth if term[0] == "heard"]
    return sorts, worth[("heard", *sorts)], -worth.get(("n",), 0), -worth.get(("t",), 0), condition.constant


def met(protocol, run, condition, surely):
    n, t, f, _, _ = run
    sorts, k, a, b, d = parts(condition)
    standing = told(protocol, run)
    voices = sum(standing["said"][sort] for sort in sorts)
    if not surely:
        voices += sum(standing["cut"][sort] for sort in sorts)
        voices += f if protocol.faults == "lying" else 0
    return k * voices >= a * n + b * t + d


def may_follow(protocol, run, step):
    """Whether a step whose parts are of the right kinds may come behind a run."""
    _, _, f, _, _ = run
    word, name, many = step
    standing = told(protocol, run)
    if word not in ("go", "cut", "stop"):
        return False
    if word != "go" and (protocol.faults != "stopping" or standing["stopped"] + many > f):
        return False
    if word == "stop":
        return standing["at"].get(name, 0) >= many
    found = [rule for rule in protocol.rules() if rule.name == name]
    return bool(found) and standing["at"][found[0].start] >= many and all(
        met(protocol, run, condition, False) for condition in found[0].when
    )


def calm(protocol, run):
    standing = told(protocol, run)
    return not any(
        standing["at"][rule.start] > 0 and all(met(protocol, run, condition, True) for condition in rule.when)
        for rule in protocol.rules()
    )


def empty_runs(protocol, most):
    """All runs without steps, of at most so many members."""
    for n in range(1, most + 1):
        for t in range(n + 1):
            for f in range(min(t, n - 1) + 1):
                if not all(promised(promise, n, t) for promise in protocol.promise()):
                    continue
                going = n if protocol.faults == "stopping" else n - f
                for begun in spread(protocol.begins(), going):
                    yield (n, t, f, begun, [])


def promised(promise, n, t):
    worth = dict(promise.terms())
    return worth.get(("n",), 0) * n + worth.get(("t",), 0) * t >= promise.constant


def spread(places, many):
    """All lists of pairs of the places and numbers that are so many in all."""
    if len(places) == 1:
        return [[(places[0], many)]]
    return [
        [(places[0], first), *others] for first in range(many + 1) for others in spread(places[1:], many - first)
    ]


def steps(protocol, most):
    """All steps of at most so many members, and some that none of these protocols has."""
    names = [rule.name for rule in protocol.rules()] + protocol.places() + ["nobody"]
    return [
        (word, name, many) for word in ("go", "cut", "stop", "wait") for name in names for many in range(1, most + 1)
    ]


def runs(protocol, most, length):
    """All runs of at most so many members and steps."""
    row = list(empty_runs(protocol, most))
    for _ in range(length + 1):
        yield from row
        row = [
            (*run[:4], [*run[4], step])
            for run in row
            for step in steps(protocol, run[0])
            if may_follow(protocol, run, step)
        ]
