"""What makes a protocol another one: something left out, or another condition."""

from manyvoices.protocols import Rule

RULE = "rule"
WHEN = "when"
PROMISE = "promise"


def with_condition(protocol, rule, index, condition):
    """Returns the protocol in which a rule has another condition at an index."""
    when = [*rule.when[:index], condition, *rule.when[index + 1 :]]
    return protocol.but(rules=_with_when(protocol.rules(), rule, when))


def all_left_out(protocol):
    """Returns a triple for all that can be left out: what it is, and the rules and the promises without it."""
    rules = protocol.rules()
    promises = protocol.promise()
    found = [((RULE, rule.name), _without(rules, index), promises) for index, rule in enumerate(rules)]
    for rule in rules:
        for index in range(len(rule.when)):
            others = _with_when(rules, rule, _without(rule.when, index))
            found.append(((WHEN, rule.name, index), others, promises))
    return [*found, *[((PROMISE, index), rules, _without(promises, index)) for index in range(len(promises))]]


def _without(things, index):
    return [*things[:index], *things[index + 1 :]]


def _with_when(rules, changed, when):
    instead = Rule(changed.name, changed.start, changed.end, when, changed.says)
    return [instead if rule.name == changed.name else rule for rule in rules]
