"""Tells the run of a crowd, step by step."""

from manyvoices.ways import CUT, STOPS, rules_in_turn


def run_of(sheet, case, crowd):
    """Returns the run in which a crowd goes its ways, stage by stage."""
    stages = sheet.stages(case.order)
    goers = [(sheet.ways[index], stages[index], many) for index, many in crowd.goers]
    going = sum([many for _, _, many in goers])
    n = going if sheet.stopping else going + crowd.f
    begun = [(place, _begun_at(goers, place)) for place in sheet.protocol.begins()]
    return n, crowd.t, crowd.f, begun, _steps(sheet.protocol, case.order, goers)


def _begun_at(goers, place):
    return sum([many for way, _, many in goers if way.begin == place])


def _steps(protocol, order, goers):
    taken = _taken(goers)
    steps = []
    for stage in range(len(order) + 1):
        # those that come to a place go ahead of those that leave it within the same stage
        for rule in rules_in_turn(protocol):
            for word in ("go", "cut"):
                steps.append((word, rule.name, taken.get((stage, word, rule.name), 0)))
    # who stops has done all that it does, so it may as well stop in the end
    steps.extend([("stop", way.last_place(), many) for way, _, many in goers if way.ending == STOPS])
    return [step for step in steps if step[2] > 0]


def _taken(goers):
    """Returns the dict from triples (stage, word, name of a rule) to how many take the rule so in the stage."""
    taken = {}
    for way, stages, many in goers:
        for place, rule in enumerate(way.row):
            word = "cut" if way.ending == CUT and place == len(way.row) - 1 else "go"
            step = (stages[place], word, rule.name)
            taken[step] = taken.get(step, 0) + many
    return taken
