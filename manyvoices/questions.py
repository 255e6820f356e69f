"""Questions: whether standings can come that meet some sums, by whatever order of conditions."""

from math import gcd, lcm

from manyvoices.crowds import Crowd
from manyvoices.tables import CONSTANT, FIRST, fresh_table


class Question:
    """Asks for standings that meet some sums (and are calm)."""

    def __init__(self, sheet, sums, calm):
        self._sheet = sheet
        self._calm = calm
        self._every = (1 << len(sheet.thresholds)) - 1
        # nobody rests where a rule asks for nothing
        resting = [sheet.empty_sum(place) for place, numbers in sheet.starts if calm and not numbers]
        self._sums = [*sums, *sheet.base, *resting]
        self._table = fresh_table(self._sums, _not_barred(self._sums, sheet.columns))
        self._is_hopeless = self._table.settle() is not None
        self._table.trim()

    def crowd(self, more=()):
        """Returns a crowd that comes to such a standing and meets more sums, or None if there is none."""
        left = [] if self._is_hopeless else [(self._table, more, self._every)]
        while left:
            table, sums, within = left.pop()
            if sums:
                table = table.grown(sums)
            if table is not None and table.settle() is None:
                crowd = Crowd(self._sheet, least_amounts(table.amounts()))
                needed = crowd.what_else(within, self._calm)
                if not needed:
                    return crowd
                left.extend([(table, [total], bits) for total, bits in needed])
        return None

    def case(self, crowd, more):
        """Returns the settled table of all crowds that come as one does, rest where it may, and meet more sums."""
        sheet = self._sheet
        few = crowd.few() if self._calm else []
        unmet = [sheet.unmet_sum(number) for number in few]
        sums = [*self._sums, *more, *sheet.order_sums(crowd.order), *unmet]
        columns = sheet.open_columns(crowd.met, sheet.barred_places(few) if self._calm else [])
        table = fresh_table(sums, _not_barred(sums, columns))
        table.settle()
        table.trim()
        return table


def _not_barred(sums, columns):
    """Returns those of the columns whose unknowns need not be 0 so that each sum by itself is at least 0."""
    barring = [total for total in sums if total[CONSTANT] == 0 and max(total[FIRST:]) <= 0]
    for total in barring:
        columns = [column for column in columns if total[column] == 0]
    return columns


def least_amounts(amounts):
    """Returns the least whole numbers that are to one another as amounts, triples (name, above, below), by names."""
    below = 1
    for _, _, part in amounts:
        if part != 1:
            below = lcm(below, part)
    whole = {name: above * (below // part) for name, above, part in amounts}
    common = 0
    for number in whole.values():
        common = gcd(common, number)
    if common <= 1:
        return whole
    # the constants are 0 or 1, so sums that hold for whole numbers hold for each whole part of them
    return {name: number // common for name, number in whole.items()}
