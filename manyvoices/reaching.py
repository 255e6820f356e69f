"""What can come, whatever the numbers: runs to a goal, papers that there are none, and who can stand together."""

from manyvoices.cases import Cases, longer_orders, solved
from manyvoices.forms import at, at_least
from manyvoices.goals import check_goal
from manyvoices.papers import barring_triples, is_barring
from manyvoices.sheets import Sheet
from manyvoices.steps import run_of


def reach(protocol, goal, *, calm=False):
    """Returns a run whose standing meets a goal (and is calm), or None if there is none."""
    check_goal(protocol, goal)
    cases = Cases(protocol)
    found = cases.reached(goal, calm)
    if found is None:
        return None
    case, crowd = found
    return run_of(cases.sheet, case, crowd)


def paper(protocol, goal, *, calm=False):
    """Returns a paper for a goal, or None if there is none."""
    check_goal(protocol, goal)
    sheet = Sheet(protocol)
    goal_rows = sheet.comparison_rows(goal)
    told = []
    level = [()]
    while level:
        behind = []
        for order in level:
            triples = barring_triples(sheet, order, goal_rows, calm)
            if triples is None:
                return None
            told.extend(triples)
            _, few, _ = triples[0]
            behind.extend([] if few is None else longer_orders(sheet, order))
        level = behind
    return told


def is_paper(protocol, goal, thing, *, calm=False):
    """Tells of any object whether it is a paper for a goal."""
    check_goal(protocol, goal)
    sheet = Sheet(protocol)
    return is_barring(sheet, sheet.comparison_rows(goal), thing, calm)


def together(protocol, *, calm=False):
    """Returns the greatest sets of places at which members can stand at once, each as a list of places."""
    cases = Cases(protocol)
    places = protocol.places()
    found = []
    for case in cases.met([], calm):
        held = _greatest_set(cases.sheet, case, places)
        found.extend([] if held in found else [held])
    greatest = [numbers for numbers in found if not any([_is_less(numbers, other) for other in found])]
    return [[places[number] for number in numbers] for numbers in sorted(greatest)]


def _greatest_set(sheet, case, places):
    """Returns the numbers of all places at which members can stand at once in a case that can be."""
    held = []
    for place in places:
        # two crowds of a case together are one, too, so it stands wherever one of them does
        if place not in held:
            crowd, _ = solved(sheet, case, sheet.comparison_rows([at_least(at(place), 1)]))
            held.extend([] if crowd is None else [sheet.ways[way].end for way, _ in crowd.goers])
    return [number for number, place in enumerate(places) if place in held]


def _is_less(numbers, other):
    return len(numbers) < len(other) and all([number in other for number in numbers])
