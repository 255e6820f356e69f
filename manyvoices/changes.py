"""Protocols like another one: with something left out, or with another condition."""

from manyvoices.protocols import Rule


def with_condition(protocol, rule, index, condition):
    """Returns the protocol in which a rule has another condition at an index."""
    return _with_conditions(protocol, rule, [*rule.when[:index], condition, *rule.when[index + 1 :]])


def all_left_out(protocol):
    """Returns a pair for all that can be left out: what it is, and the protocol without it."""
    return [*_without_rules(protocol), *_without_conditions(protocol), *_without_promises(protocol)]


def _with_conditions(protocol, changed, when):
    instead = Rule(changed.name, changed.start, changed.end, when, changed.says)
    return protocol.but(rules=[instead if rule.name == changed.name else rule for rule in protocol.rules()])


def _without_rules(protocol):
    rules = protocol.rules()
    pairs = []
    for index, rule in enumerate(rules):
        others = [*rules[:index], *rules[index + 1 :]]
        pairs.append((("rule", rule.name), protocol.but(rules=others)))
    return pairs


def _without_conditions(protocol):
    pairs = []
    for rule in protocol.rules():
        for index in range(len(rule.when)):
            others = [*rule.when[:index], *rule.when[index + 1 :]]
            pairs.append((("when", rule.name, index), _with_conditions(protocol, rule, others)))
    return pairs


def _without_promises(protocol):
    promises = protocol.promise()
    pairs = []
    for index in range(len(promises)):
        others = [*promises[:index], *promises[index + 1 :]]
        pairs.append((("promise", index), protocol.but(promise=others)))
    return pairs
