"""Questions: whether standings can come that meet some sums, by whatever order of conditions."""

from manyvoices.crowds import Crowd
from manyvoices.tables import CONSTANT, FIRST, fresh_table


class Question:
    """Asks for standings that meet some sums (and are calm).

    table is a settled one of these sums, or None if they cannot be met, in
    whatever order and wherever members rest.
    """

    def __init__(self, sheet, calm, sums, table):
        self._sheet = sheet
        self._calm = calm
        self._sums = sums
        self._table = table

    def also(self, sums):
        """Returns the question for standings that meet more sums."""
        return Question(self._sheet, self._calm, [*self._sums, *sums], _settled(self._table, sums))

    def crowd(self):
        """Returns a crowd that comes to such a standing, or None if there is none."""
        # tables, one more sum, if any, and the conditions by which members may go, as bits
        left = [(self._table, [], (1 << len(self._sheet.thresholds)) - 1)]
        while left:
            ahead, sums, within = left.pop()
            table = _settled(ahead, sums)
            if table is not None:
                crowd = Crowd(self._sheet, table.whole_amounts())
                needed = crowd.what_else(within, self._calm)
                if not needed:
                    return crowd
                left.extend([(table, [total], bits) for total, bits in needed])
        return None

    def case(self, crowd):
        """Returns the settled table of all crowds that come by the same order as one does, and rest where it may."""
        sheet = self._sheet
        few = crowd.few() if self._calm else []
        sums = [*self._sums, *sheet.order_sums(crowd.order), *[sheet.unmet_sum(number) for number in few]]
        columns = sheet.open_columns(crowd.met, sheet.barred_places(few) if self._calm else [])
        return _trimmed(fresh_table(sums, _not_barred(sums, columns)))


def question_of(sheet, sums, calm):
    """Returns the question for standings that meet sums (and are calm)."""
    columns = _not_barred(sums, sheet.calm_columns() if calm else sheet.columns)
    sums = [*sums, *sheet.base]
    return Question(sheet, calm, sums, _trimmed(fresh_table(sums, columns)))


def _not_barred(sums, columns):
    """Returns those of the columns whose unknowns need not be 0 so that each sum by itself is at least 0."""
    for total in sums:
        if total[CONSTANT] == 0 and max(total[FIRST:]) <= 0:
            columns = [column for column in columns if total[column] == 0]
    return columns


def _trimmed(table):
    """Returns a table, settled and trimmed, or None if this cannot be."""
    if table.settle() is not None:
        return None
    table.trim()
    return table


def _settled(table, sums):
    """Returns the settled table of more sums, or None if there is none, or was none."""
    if table is None or not sums:
        return table
    grown = table.grown(sums)
    return None if grown is None or grown.settle() is not None else grown
