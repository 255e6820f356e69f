"""Papers: lists of triples (order, few, weights) that show that a goal cannot be met."""

from manyvoices.cases import choices, longer_orders, solved
from manyvoices.kinds import is_integer, is_list, is_row


def barring_triples(sheet, order, goal_rows, calm):
    """Returns the triples that a paper has with an order, or None if the goal can be met by it."""
    if order != ():
        _, weights = solved(sheet, sheet.bare_case(order), [])
        if weights is not None:
            return [(order, None, weights)]
    triples = []
    for few in choices(sheet, calm):
        _, weights = solved(sheet, sheet.case_of(order, few, calm), goal_rows)
        if weights is None:
            return None
        triples.append((order, few, weights))
    return triples


def is_barring(sheet, goal_rows, thing, calm):
    """Tells of any object whether it is a paper for the goal with these rows."""
    told = _told(len(sheet.thresholds), thing)
    if told is None or () not in told:
        return False
    for order in told:
        if not _stands_rightly(sheet, told, order, calm):
            return False
        for few in told[order]:
            if not _bars(sheet, order, few, goal_rows, told[order][few], calm):
                return False
    return True


def _told(many, thing):
    """Returns the dict from orders to dicts from few to weights, or None for what tells no such ones."""
    if not is_list(thing) or not all([_is_triple(many, triple) for triple in thing]):
        return None
    told = {}
    for order, few, weights in thing:
        by_few = told.setdefault(tuple(order), {})
        key = None if few is None else tuple(few)
        if key in by_few:
            return None
        by_few[key] = weights
    return told


def _is_triple(many, thing):
    if not is_row(thing, 3):
        return False
    order, few, weights = thing
    if not _are_unlike_numbers(many, order) or not _are_weights(weights):
        return False
    return few is None or _are_unlike_numbers(many, few)


def _are_unlike_numbers(many, thing):
    """Tells of any object whether it is a list of unlike numbers of so many conditions."""
    if not is_list(thing) or not all([is_integer(number) and 0 <= number < many for number in thing]):
        return False
    return len(set(thing)) == len(thing)


def _are_weights(thing):
    return is_list(thing) and all([is_integer(weight) and weight >= 0 for weight in thing])


def _stands_rightly(sheet, told, order, calm):
    """Tells whether an order stands with each few that it must stand with, and orders ahead of it and behind it."""
    by_few = told[order]
    # an order that stands with None has none behind it; () has itself ahead of it, so it stands with few
    if None in told.get(order[:-1], {None: []}):
        return False
    if None in by_few:
        return len(by_few) == 1
    all_few = choices(sheet, calm)
    if len(by_few) != len(all_few) or not all([few in by_few for few in all_few]):
        return False
    return all([longer in told for longer in longer_orders(sheet, order)])


def _bars(sheet, order, few, goal_rows, weights, calm):
    """Tells whether weights bar; None in the place of few stands for the order without the goal."""
    case = sheet.bare_case(order) if few is None else sheet.case_of(order, few, calm)
    rows = sheet.rows_of(case, [] if few is None else goal_rows)
    if len(weights) != len(rows):
        return False
    ways = sheet.open_ways(case)
    if not ways:
        return True
    pairs = list(zip(weights, rows))
    best = max([sum([weight * row.worths[way] for weight, row in pairs]) for way in ways])
    n = sum([weight * row.n for weight, row in pairs])
    t = sum([weight * row.t for weight, row in pairs])
    f = sum([weight * row.f for weight, row in pairs])
    constant = sum([weight * row.constant for weight, row in pairs])
    return t <= 0 and n + best <= 0 and (f if sheet.stopping else n + f) <= 0 and constant > 0
