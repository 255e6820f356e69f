"""Cases: by which order of conditions a standing can come, and what it needs to be there."""

from math import gcd, lcm

from manyvoices.sheets import FAULTY, FIRST_WAY, MORE, bits_of
from manyvoices.tables import fresh_table
from manyvoices.ways import STAYS


class Crowd:
    """How many faulty ones are borne, how many there are, and the pairs (a way, how many go it)."""

    def __init__(self, t, f, goers):
        self.t = t
        self.f = f
        self.goers = goers


class Case:
    """An order by which standings can come, the sums that they meet by whatever order, and a settled table.

    columns are those of the unknowns that need not be 0.
    """

    def __init__(self, order, sums, columns, table):
        self.order = order
        self.sums = sums
        self.columns = columns
        self.table = table


class Search:
    """Looks through the orders by which standings can come that meet some sums, by ways of some columns alone."""

    def __init__(self, sheet, sums, columns):
        self._sheet = sheet
        self._sums = [*sums, *sheet.base]
        self._columns = columns
        # orders to be looked at, each told by the one ahead of it, the conditions of that one as bits, those
        # that come behind them, and the tables of the one ahead
        self._left = [((), 0, [], fresh_table(self._sums), None)]

    def next_case(self):
        """Returns the next case in which such a standing can come, or None behind the last one."""
        while self._left:
            order, met, block, ahead, wide = self._left.pop()
            sums = [self._sheet.met_sum(number, met) for number in block]
            order = (*order, *block)
            met += bits_of(block)
            columns = self._open_columns(met)
            table, wide = self._settled(sums, columns, ahead, wide)
            if table is not None:
                self._left.extend([(order, met, more, table, wide) for more in self._sheet.blocks(met)])
            if table is not None and wide is None:
                return Case(order, self._sums, columns, table)
        return None

    def _settled(self, sums, columns, ahead, wide):
        """Returns the table of an order, settled if its open ways are enough, else stuck, and the wide table, if so.

        The wide one is settled by all ways, as may be open later; where even
        this cannot be, it returns no tables at all.
        """
        if wide is not None:
            wide = wide.grown(sums)
            if wide.settle(self._columns) is not None:
                return None, None
            if wide.stands_on(columns):
                return wide, None
        table = ahead.grown(sums)
        if table.settle(columns) is None:
            return table, None
        if wide is None:
            wide = table.grown([])
            if wide.settle(self._columns) is not None:
                return None, None
        return table, wide

    def _open_columns(self, met):
        columns = self._sheet.open_columns(met)
        if len(self._columns) == len(self._sheet.all_columns):
            return columns
        return [column for column in columns if column in self._columns]


def searches(sheet, sums, calm):
    """Returns the searches that together find all standings that meet some sums (and are calm)."""
    if not calm:
        return [Search(sheet, sums, sheet.all_columns)]
    return [Search(sheet, [*sums, *unmet], columns) for unmet, columns in sheet.choices()]


def first_case(sheet, sums, calm):
    """Returns a case in which a standing can come that meets some sums (and is calm), or None."""
    for search in searches(sheet, sums, calm):
        case = search.next_case()
        if case is not None:
            return case
    return None


def all_cases(sheet, sums, calm):
    """Returns cases such that each standing that meets some sums (and is calm) comes in one of them."""
    found = []
    for search in searches(sheet, sums, calm):
        case = search.next_case()
        while case is not None:
            found.append(case)
            case = search.next_case()
    return found


def crowd_of(sheet, table):
    """Returns the crowd of the least whole numbers that are to one another as those that a settled table tells."""
    amounts = table.amounts()
    below = 1
    for _, part in amounts.values():
        below = lcm(below, part)
    whole = {name: above * (below // part) for name, (above, part) in amounts.items() if above > 0}
    common = 0
    for number in whole.values():
        common = gcd(common, number)
    # the constants are 0 or 1, so sums that hold for whole numbers hold for each whole part of them
    least = {name: number // common for name, number in whole.items()}
    goers = [(way, least[column]) for column, way in enumerate(sheet.ways, FIRST_WAY) if column in least]
    f = least.get(FAULTY, 0) + sum([many for way, many in goers if way.ending != STAYS])
    return Crowd(least.get(MORE, 0) + f, f, goers)
