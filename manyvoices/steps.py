"""Tells the run of a crowd, step by step."""

from manyvoices.ways import CUT, STOPS, rules_in_turn


def run_of(protocol, crowd):
    """Returns the run in which a crowd goes its ways, stage by stage."""
    n, t, f = crowd.n_t_f()
    goers = crowd.goers()
    begun = [(place, _begun_at(goers, place)) for place in protocol.begins()]
    return n, t, f, begun, _steps(protocol, crowd.order, goers)


def _begun_at(goers, place):
    return sum([many for way, many in goers if way.begin == place])


def _steps(protocol, order, goers):
    taken = _taken(order, goers)
    steps = []
    for stage in range(len(order) + 1):
        # those that come to a place go ahead of those that leave it within the same stage
        for rule in rules_in_turn(protocol):
            for word in ("go", "cut"):
                steps.append((word, rule.name, taken.get((stage, word, rule.name), 0)))
    # who stops has done all that it does, so it may as well stop in the end
    steps.extend([("stop", way.last, many) for way, many in goers if way.ending == STOPS])
    return [step for step in steps if step[2] > 0]


def _taken(order, goers):
    """Returns the dict from triples (stage, word, name of a rule) to how many take the rule so in the stage."""
    taken = {}
    for way, many in goers:
        for place, rule in enumerate(way.row):
            word = "cut" if way.ending == CUT and place == len(way.row) - 1 else "go"
            step = (_first_stage(order, way.marks[place]), word, rule.name)
            taken[step] = taken.get(step, 0) + many
    return taken


def _first_stage(order, mark):
    """Returns the first stage in which all conditions of a mark have been met."""
    return max([stage for stage, number in enumerate(order, 1) if mark >> number & 1], default=0)
