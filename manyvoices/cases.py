"""Cases: by which order of conditions a standing comes, and which conditions are not surely met in it."""

from math import gcd, lcm

from manyvoices.sheets import Sheet
from manyvoices.tables import Table


class Crowd:
    """How many faulty ones are borne, how many there are, and the pairs (index of a way, how many go it)."""

    def __init__(self, t, f, goers):
        self.t = t
        self.f = f
        self.goers = tuple(goers)


class Cases:
    """All cases by which standings of a protocol can come."""

    def __init__(self, protocol):
        self.sheet = Sheet(protocol)
        orders = possible_orders(self.sheet)
        # what comes by an order whose last condition lets nobody do more comes by the order ahead of it, too
        self._orders = [order for order in orders if order == () or self.sheet.lets_more(order)]
        self._choices = _needed_choices(self.sheet)

    def reached(self, goal, calm):
        """Returns a pair (case, crowd) with which a standing meets a goal (and is calm), or None."""
        goal_rows = self.sheet.comparison_rows(goal)
        for order in self._orders:
            for found in self._met_by(order, goal_rows, calm):
                return found
        return None

    def met(self, goal_rows, calm):
        """Returns cases such that each standing that meets a goal (and is calm) comes by one of them."""
        return [case for order in self._orders for case, _ in self._met_by(order, goal_rows, calm)]

    def _met_by(self, order, goal_rows, calm):
        """Returns the pairs (case, crowd) by an order."""
        cases = [self.sheet.bare_case(order)]
        pairs = self._held(cases, goal_rows)
        # where no standing meets the goal, no calm one does
        if calm and pairs:
            cases = [self.sheet.case_of(order, few, calm) for few in self._choices]
            pairs = self._held(cases, goal_rows)
        return pairs

    def _held(self, cases, goal_rows):
        pairs = [(case, solved(self.sheet, case, goal_rows)[0]) for case in cases]
        return [(case, crowd) for case, crowd in pairs if crowd is not None]


def choices(sheet, calm):
    """Returns all choices of few conditions, as ascending tuples."""
    found = [()]
    for number in range(len(sheet.thresholds) if calm else 0):
        found = found + [(*few, number) for few in found]
    return found


def longer_orders(sheet, order):
    """Returns the orders that are an order and one condition more behind it."""
    return [(*order, number) for number in range(len(sheet.thresholds)) if number not in order]


def possible_orders(sheet):
    """Returns all orders whose conditions can come to be met one behind another, shorter ones ahead."""
    found = []
    level = [()]
    while level:
        level = [order for order in level if solved(sheet, sheet.bare_case(order), [])[0] is not None]
        found.extend(level)
        level = [longer for order in level for longer in longer_orders(sheet, order)]
    return found


def solved(sheet, case, goal_rows):
    """Returns the pair of a crowd with which all rows of a case hold, and of weights that bar it; one is None."""
    rows = sheet.rows_of(case, goal_rows)
    ways = unlike_ways(sheet, case, rows)
    table = Table([unknowns_of(sheet, row, ways) for row in rows], [])
    stuck = table.settle()
    if stuck is not None:
        return None, table.reasons(stuck)
    return _whole_crowd(ways, table.amounts()), None


def unlike_ways(sheet, case, rows):
    """Returns the indexes of the ways that are open in a case, one of those that are alike in all rows."""
    kept = {}
    for index in sheet.open_ways(case):
        kept.setdefault(tuple([row.worths[index] for row in rows]), index)
    return list(kept.values())


def unknowns_of(sheet, row, ways):
    """Returns how much the form of a row is above its constant: a constant, and integers of t, f and each way."""
    # n is no unknown: it is the sum of those that go the ways, and of the faulty ones unless these go some way, too
    faulty = row.f if sheet.stopping else row.n + row.f
    return [-row.constant, row.t, faulty, *[row.n + row.worths[index] for index in ways]]


def _needed_choices(sheet):
    """Returns the choices of few conditions of which none can be left out without barring a place more."""
    found = []
    for few in choices(sheet, True):
        fewer = [[number for number in few if number != left] for left in few]
        if not any([sheet.barred_places(some) == sheet.barred_places(few) for some in fewer]):
            found.append(few)
    return found


def _whole_crowd(ways, amounts):
    """Returns the crowd of the least whole numbers that are to one another as amounts are."""
    below = 1
    for _, part in amounts:
        below = lcm(below, part)
    whole = [above * (below // part) for above, part in amounts]
    common = 0
    for number in whole:
        common = gcd(common, number)
    # the constants are 0 or 1, so rows that hold for whole numbers hold for each whole part of them
    t, f, *many = [number // common for number in whole]
    return Crowd(t, f, [(way, number) for way, number in zip(ways, many) if number > 0])
