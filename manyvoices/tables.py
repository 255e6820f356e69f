"""Tables of sums of unknowns that are 0 or more, in whole numbers alone."""

from math import gcd

SCALE = 0
CONSTANT = 1
FIRST = 2
# rows whose scale is smaller are not worth being shortened
LARGE = 1000


class Table:
    """Sums that shall be at least 0.

    A row [s, c, a, b, ..] tells that s times a sum are c, a times the first
    of the free unknowns, b times the second one, and so on; s is positive.
    Each sum is an unknown, too: it may change places with a free one. The
    name of an unknown is its place in the sums that are passed, from FIRST
    on; the names of the sums follow. heads are the names of the free unknowns
    by their columns, sides those of the others by their rows.
    """

    def __init__(self, width, heads, sides, rows):
        self._width = width
        self.heads = heads
        self.sides = sides
        self.rows = rows
        self._watched = []

    def grown(self, sums):
        """Returns a table of these sums, too, with the same free unknowns."""
        first = self._width + len(self.rows)
        sides = self.sides + list(range(first, first + len(sums)))
        return Table(self._width, list(self.heads), sides, [*self.rows, *[self._told(total) for total in sums]])

    def watch(self, sums):
        """Watches these sums, which need not be at least 0; their places in the list are their names."""
        self._watched = [self._told(total) for total in sums]

    def settle(self, columns):
        """Makes no sum below 0 while the free unknowns are 0, by exchanging those of these columns alone.

        It returns None, or the index of a sum that is always below 0.
        """
        index = self._first_below()
        while index is not None:
            column = self._first_rising(self.rows[index], 1, columns)
            if column is None:
                return index
            self._exchange(index, column)
            index = self._first_below()
        return None

    def stands_on(self, columns):
        """Tells whether no unknowns but those of these columns, when all were free, have changed places."""
        return all([name in columns for name in self.sides if name < self._width])

    def measure_by(self, place):
        """Makes a watched sum, now above 0, the unit; the unit that was is watched behind all others."""
        self.sides.append(self._width + len(self.rows))
        self.rows.append(self._watched[place])
        self._exchange(len(self.rows) - 1, CONSTANT)
        self._watched.append(self.rows[-1])

    def drive(self, place, sign, columns):
        """Makes a watched sum as great (sign 1) or as small (sign -1) as it can be, by these columns alone."""
        column = self._first_rising(self._watched[place], sign, columns)
        while column is not None:
            self._exchange(self._tightest(column), column)
            column = self._first_rising(self._watched[place], sign, columns)

    def unmoving(self, place, columns):
        """Returns those of the columns whose unknowns leave a watched sum as it is."""
        row = self._watched[place]
        return [column for column in columns if row[column] == 0]

    def amount(self, place):
        """Returns how much a watched sum is while the free unknowns are 0, as a pair (above, below)."""
        row = self._watched[place]
        return row[CONSTANT], row[SCALE]

    def amounts(self):
        """Returns the dict from the unknowns that are not free to how much they are, as pairs (above, below)."""
        told = {}
        for name, row in zip(self.sides, self.rows):
            if name < self._width:
                told[name] = (row[CONSTANT], row[SCALE])
        return told

    def reasons(self, index):
        """Returns how often to add up which sums to see that one of them is below 0, whatever the unknowns are.

        It is a dict from their names; what it lacks is not added.
        """
        row = self.rows[index]
        often = {self.heads[column]: -row[column] for column in range(FIRST, self._width)}
        often[self.sides[index]] = row[SCALE]
        return often

    def _told(self, total):
        """Returns the row that tells a sum by the free unknowns."""
        row = [total[name] if name < self._width else 0 for name in self.heads]
        for name, other in zip(self.sides, self.rows):
            if name < self._width and total[name] != 0:
                row = _mixed(row, row[SCALE] * total[name], other, SCALE)
        return row

    # Of several rows or columns always the one with the least name is taken,
    # so that no exchange comes back to where it was.

    def _first_below(self):
        found = None
        for index, row in enumerate(self.rows):
            if row[CONSTANT] < 0 and (found is None or self.sides[index] < self.sides[found]):
                found = index
        return found

    def _first_rising(self, row, sign, columns):
        found = None
        for column in columns:
            if sign * row[column] > 0 and (found is None or self.heads[column] < self.heads[found]):
                found = column
        return found

    def _tightest(self, column):
        found = None
        for index, row in enumerate(self.rows):
            if row[column] < 0 and (found is None or self._is_tighter(index, found, column)):
                found = index
        return found

    def _is_tighter(self, index, other, column):
        one = self.rows[index]
        two = self.rows[other]
        less = one[CONSTANT] * two[column] - two[CONSTANT] * one[column]
        return less > 0 or less == 0 and self.sides[index] < self.sides[other]

    def _exchange(self, index, column):
        solved = _solved(self.rows[index], column)
        self.rows = [_mixed(row, row[column], solved, column) if row[column] else row for row in self.rows]
        self.rows[index] = solved
        self._watched = [_mixed(row, row[column], solved, column) if row[column] else row for row in self._watched]
        self.heads[column], self.sides[index] = self.sides[index], self.heads[column]


def fresh_table(sums):
    """Returns the table of these sums, one or more, with all unknowns free."""
    width = len(sums[0])
    return Table(width, list(range(width)), list(range(width, width + len(sums))), list(sums))


def _solved(row, column):
    """Returns the row that tells the unknown of a column by the others and by the sum of the row."""
    pivot = row[column]
    solved = [-number for number in row] if pivot > 0 else list(row)
    solved[SCALE] = abs(pivot)
    solved[column] = row[SCALE] if pivot > 0 else -row[SCALE]
    return solved


def _mixed(row, times, other, column):
    """Returns a row and so many times what another one tells, which stands for what the row has in a column."""
    own = 1
    scale = other[SCALE]
    if scale == 1:
        mixed = [number + times * more for number, more in zip(row, other)]
    else:
        common = gcd(times, scale)
        own = scale // common
        times = times // common
        mixed = [own * number + times * more for number, more in zip(row, other)]
    mixed[column] = times * other[column]
    mixed[SCALE] = own * row[SCALE]
    return mixed if mixed[SCALE] < LARGE else _shortened(mixed)


def _shortened(row):
    common = 0
    for number in row:
        common = gcd(common, number)
        if common == 1:
            return row
    return [number // common for number in row]
