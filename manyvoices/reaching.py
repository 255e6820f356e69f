"""What can come, whatever the numbers: runs to a goal, papers that there are none, and who can stand together."""

from manyvoices.cases import all_cases, crowd_of, first_case
from manyvoices.goals import check_goal
from manyvoices.papers import barring_triples, is_barring, longer_orders
from manyvoices.sheets import FIRST_WAY, Sheet
from manyvoices.steps import run_of


def reach(protocol, goal, *, calm=False):
    """Returns a run whose standing meets a goal (and is calm), or None if there is none."""
    check_goal(protocol, goal)
    sheet = Sheet(protocol)
    case = first_case(sheet, sheet.comparison_sums(goal), calm)
    if case is None:
        return None
    return run_of(protocol, case.order, crowd_of(sheet, case.table))


def paper(protocol, goal, *, calm=False):
    """Returns a paper for a goal, or None if there is none."""
    check_goal(protocol, goal)
    sheet = Sheet(protocol)
    goal_sums = sheet.comparison_sums(goal)
    told = []
    level = [()]
    while level:
        behind = []
        for order in level:
            triples = barring_triples(sheet, order, goal_sums, calm)
            if triples is None:
                return None
            told.extend(triples)
            _, few, _ = triples[0]
            behind.extend([] if few is None else longer_orders(sheet, order))
        level = behind
    return told


def is_paper(protocol, goal, thing, *, calm=False):
    """Tells of any object whether it is a paper for a goal."""
    check_goal(protocol, goal)
    sheet = Sheet(protocol)
    return is_barring(sheet, sheet.comparison_sums(goal), thing, calm)


def together(protocol, *, calm=False):
    """Returns the greatest sets of places at which members can stand at once, each as a list of places."""
    return sets_together(Sheet(protocol), calm)


def sets_together(sheet, calm):
    """Returns the greatest sets of places at which members can stand at once, by the sheet of a protocol."""
    places = sheet.protocol.places()
    found = []
    # the more conditions are met, the more places can be stood at, so the last cases are looked at ahead
    for case in reversed(all_cases(sheet, [], calm)):
        ends = [sheet.way(column).end for column in case.columns if column >= FIRST_WAY]
        open_places = [place for place in places if place in ends]
        if not _is_held(open_places, found):
            held = _greatest_set(sheet, case, open_places)
            found.extend([] if _is_held(held, found) else [held])
    greatest = [held for held in found if not _is_held(held, [other for other in found if other != held])]
    numbers = sorted([[places.index(place) for place in held] for held in greatest])
    return [[places[number] for number in row] for row in numbers]


def _greatest_set(sheet, case, open_places):
    """Returns those of the places at which members can stand at once in a case."""
    held = _held_places(sheet, case.table)
    for place in open_places:
        # two crowds of a case together are one, too, so it stands wherever one of them does
        if place not in held:
            table = case.table.grown([sheet.standing_sum(place)])
            if table.settle(case.columns) is None:
                held.extend(_held_places(sheet, table))
    return [place for place in open_places if place in held]


def _is_held(row, found):
    """Tells whether all of some places are among those of one of the rows that are found."""
    return any([is_part(row, held) for held in found])


def _held_places(sheet, table):
    """Returns the places at which members stand by a settled table."""
    amounts = table.amounts()
    return [sheet.way(name).end for name in amounts if name >= FIRST_WAY and amounts[name][0] > 0]


def is_part(places, greater):
    """Tells whether all of some places are among others."""
    return all([place in greater for place in places])
