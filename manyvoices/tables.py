"""Tables of sums of unknowns that are 0 or more, in whole numbers alone."""

from math import gcd

SCALE = 0
CONSTANT = 1
FIRST = 2


class Table:
    """Sums that shall be at least 0, and watched ones that need not.

    A row [s, c, a, b, ..] tells that s times a sum are c, a times the first
    of the free unknowns, b times the second one, and so on; s is positive.
    Each sum is an unknown, too: it may change places with a free one.
    """

    def __init__(self, sums, watched):
        self.unknowns = len(sums[0]) - 1
        self.rows = [[1, *row] for row in sums]
        self.watched = [[1, *row] for row in watched]
        self.heads = list(range(FIRST + self.unknowns))
        self.sides = list(range(FIRST + self.unknowns, FIRST + self.unknowns + len(sums)))

    def settle(self):
        """Makes no sum below 0 while the free unknowns are 0; returns None, or the index of a sum that is always."""
        index = self._first_below()
        while index is not None:
            column = self._first_rising(self.rows[index], None)
            if column is None:
                return index
            self._exchange(index, column)
            index = self._first_below()
        return None

    def measure_by(self, place):
        """Makes a watched sum, now above 0, the unit; the unit that was is watched behind all others."""
        self.rows.append(list(self.watched[place]))
        self.sides.append(FIRST + self.unknowns + len(self.sides))
        self._exchange(len(self.rows) - 1, CONSTANT)
        self.watched.append(list(self.rows[-1]))

    def rise(self, place, kept=None):
        """Makes a watched sum as great as it can be, while the one at the place kept, if any, stays as it is."""
        column = self._first_rising(self.watched[place], kept)
        while column is not None:
            self._exchange(self._tightest(column), column)
            column = self._first_rising(self.watched[place], kept)

    def amount(self, place):
        """Returns how much a watched sum is while the free unknowns are 0, as a pair (above, below)."""
        row = self.watched[place]
        return row[CONSTANT], row[SCALE]

    def amounts(self):
        """Returns how much the unknowns are while the free ones are 0, as pairs (above, below)."""
        told = [(0, 1) for _ in range(self.unknowns)]
        for name, row in zip(self.sides, self.rows):
            if FIRST <= name < FIRST + self.unknowns:
                told[name - FIRST] = (row[CONSTANT], row[SCALE])
        return told

    def reasons(self, index):
        """Returns how often to add up which sums to see that one of them is below 0, whatever the unknowns are."""
        often = [0 for _ in self.rows]
        first = FIRST + self.unknowns
        row = self.rows[index]
        told = [(self.sides[index], row[SCALE])]
        told.extend([(self.heads[column], -row[column]) for column in range(FIRST, len(row))])
        for name, number in told:
            if name >= first:
                often[name - first] = number
        return often

    # Of several rows or columns always the one with the least name is taken,
    # so that no exchange comes back to where it was.

    def _first_below(self):
        found = None
        for index, row in enumerate(self.rows):
            if row[CONSTANT] < 0 and (found is None or self.sides[index] < self.sides[found]):
                found = index
        return found

    def _first_rising(self, row, kept):
        found = None
        for column in range(FIRST, len(row)):
            if row[column] > 0 and (kept is None or self.watched[kept][column] == 0):
                if found is None or self.heads[column] < self.heads[found]:
                    found = column
        return found

    def _tightest(self, column):
        found = None
        for index, row in enumerate(self.rows):
            if row[column] < 0 and (found is None or self._is_tighter(index, found, column)):
                found = index
        return found

    def _is_tighter(self, index, other, column):
        one = self.rows[index]
        two = self.rows[other]
        less = one[CONSTANT] * two[column] - two[CONSTANT] * one[column]
        return less > 0 or less == 0 and self.sides[index] < self.sides[other]

    def _exchange(self, index, column):
        solved = _solved(self.rows[index], column)
        self.rows = [_put_in(row, column, solved) for row in self.rows]
        self.rows[index] = solved
        self.watched = [_put_in(row, column, solved) for row in self.watched]
        self.heads[column], self.sides[index] = self.sides[index], self.heads[column]


def _solved(row, column):
    """Returns the row that tells the unknown of a column by the others and by the sum of the row."""
    sign = 1 if row[column] > 0 else -1
    solved = [-sign * number for number in row]
    solved[SCALE] = sign * row[column]
    solved[column] = sign * row[SCALE]
    return solved


def _put_in(row, column, solved):
    """Returns a row with what a solved row tells in the place of the unknown of a column."""
    if row[column] == 0:
        return row
    common = gcd(row[column], solved[SCALE])
    own = solved[SCALE] // common
    other = row[column] // common
    mixed = [own * number + other * put for number, put in zip(row, solved)]
    mixed[SCALE] = own * row[SCALE]
    mixed[column] = other * solved[column]
    return _shortened(mixed)


def _shortened(row):
    common = 0
    for number in row:
        common = gcd(common, number)
        if common == 1:
            return row
    return [number // common for number in row]
