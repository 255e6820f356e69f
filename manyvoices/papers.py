"""Papers: lists of triples (order, few, weights) that show that a goal cannot be met."""

from manyvoices.kinds import is_integer, is_list, is_row
from manyvoices.sheets import FAULTY, FIRST_WAY, MORE, bits_of
from manyvoices.tables import CONSTANT, fresh_table
from manyvoices.ways import STAYS


def barring_triples(sheet, order, goal_sums, calm):
    """Returns the triples that a paper has with an order, or None if the goal can be met by it."""
    if order != ():
        weights = _barring_weights(sheet, order, None, [], calm)
        if weights is not None:
            return [(order, None, weights)]
    triples = []
    for few in _all_few(sheet, calm):
        weights = _barring_weights(sheet, order, few, goal_sums, calm)
        if weights is None:
            return None
        triples.append((order, few, weights))
    return triples


def longer_orders(sheet, order):
    """Returns the orders that are an order and one condition more behind it."""
    return [(*order, number) for number in range(len(sheet.thresholds)) if number not in order]


def is_barring(sheet, goal_sums, thing, calm):
    """Tells of any object whether it is a paper for the goal with these sums."""
    told = _told(len(sheet.thresholds), thing)
    if told is None or () not in told:
        return False
    for order in told:
        if not _stands_rightly(sheet, told, order, calm):
            return False
        for few in told[order]:
            if not _bars(sheet, order, few, goal_sums, told[order][few], calm):
                return False
    return True


def _told(many, thing):
    """Returns the dict from orders to dicts from few to weights, or None for what tells no such ones."""
    if not is_list(thing) or not all([_is_triple(many, triple) for triple in thing]):
        return None
    told = {}
    for order, few, weights in thing:
        by_few = told.setdefault(tuple(order), {})
        key = None if few is None else tuple(few)
        if key in by_few:
            return None
        by_few[key] = weights
    return told


def _is_triple(many, thing):
    if not is_row(thing, 3):
        return False
    order, few, weights = thing
    if not _are_unlike_numbers(many, order) or not _are_weights(weights):
        return False
    return few is None or _are_unlike_numbers(many, few)


def _are_unlike_numbers(many, thing):
    """Tells of any object whether it is a list of unlike numbers of so many conditions."""
    if not is_list(thing) or not all([is_integer(number) and 0 <= number < many for number in thing]):
        return False
    return len(set(thing)) == len(thing)


def _are_weights(thing):
    return is_list(thing) and all([is_integer(weight) and weight >= 0 for weight in thing])


def _stands_rightly(sheet, told, order, calm):
    """Tells whether an order stands with each few that it must stand with, and orders ahead of it and behind it."""
    by_few = told[order]
    # an order that stands with None has none behind it; () has itself ahead of it, so it stands with few
    if None in told.get(order[:-1], {None: []}):
        return False
    if None in by_few:
        return len(by_few) == 1
    all_few = _all_few(sheet, calm)
    if len(by_few) != len(all_few) or not all([few in by_few for few in all_few]):
        return False
    return all([longer in told for longer in longer_orders(sheet, order)])


def _all_few(sheet, calm):
    """Returns all choices few of conditions, as ascending tuples."""
    found = [()]
    for number in range(len(sheet.thresholds) if calm else 0):
        found = found + [(*few, number) for few in found]
    return found


def _sums_of(sheet, order, few, goal_sums):
    """Returns the sums of a triple, in the order of the weights."""
    unmet = [sheet.unmet_sum(number) for number in few or ()]
    return [*sheet.order_sums(order), *sheet.promises, *goal_sums, *unmet, *sheet.last_sums()]


def _open_columns(sheet, order, few, calm):
    """Returns the columns of the unknowns that need not be 0 in a triple."""
    barred = [] if few is None or not calm else sheet.barred_places(few)
    return sheet.open_columns(bits_of(order), barred)


def _barring_weights(sheet, order, few, goal_sums, calm):
    """Returns weights that bar, or None if there are none."""
    sums = _sums_of(sheet, order, few, goal_sums)
    table = fresh_table(sums, _open_columns(sheet, order, few, calm))
    stuck = table.settle()
    if stuck is None:
        return None
    often = table.reasons(stuck)
    weights = [often.get(name, 0) for name in range(len(sums[0]), len(sums[0]) + len(sums))]
    # that the unknowns of MORE and FAULTY are 0 or more is said by sums, too, which have weights
    weights[-len(sheet.last_sums())] += often.get(MORE, 0)
    if sheet.stopping:
        weights[-1] += often.get(FAULTY, 0)
    return weights


def _bars(sheet, order, few, goal_sums, weights, calm):
    """Tells whether weights bar; None in the place of few stands for the order without the goal."""
    sums = _sums_of(sheet, order, few, [] if few is None else goal_sums)
    if len(weights) != len(sums):
        return False
    columns = [column for column in _open_columns(sheet, order, few, calm) if column >= FIRST_WAY]
    if not columns:
        return True
    total = [sum([weight * other[place] for weight, other in zip(weights, sums)]) for place in range(len(sums[0]))]
    # the integer of t, and that of f, with that of n where the faulty ones go no way
    t = total[MORE]
    f = total[FAULTY] - t
    # who stops is a faulty one, for whom t and f count, too
    idle = [0 if way.ending == STAYS else total[FAULTY] for way in sheet.ways]
    worths = [total[column] - idle[column - FIRST_WAY] for column in columns]
    return t <= 0 and max(worths) <= 0 and f <= 0 and total[CONSTANT] < 0
