"""Tables of sums of unknowns that are 0 or more, in whole numbers alone."""

from math import gcd, lcm

SCALE = 0
CONSTANT = 1
FIRST = 2
# rows whose scale is smaller are not worth being shortened
LARGE = 1000


class Table:
    """Sums that shall be at least 0.

    A row [s, c, a, b, ..] tells that s times a sum are c, a times the first
    of the free unknowns, b times the second one, and so on; s is positive.
    Each sum is an unknown, too: it may change places with a free one. The
    name of an unknown is its place in the sums that are passed, from FIRST
    on, each of so many numbers as width tells; the names of the sums follow,
    up to behind. columns are those of the free unknowns, heads their names by
    column, sides those of the others by their rows.
    """

    def __init__(self, width, behind, columns, heads, sides, rows):
        self.columns = columns
        self._width = width
        self._behind = behind
        self._heads = heads
        self._sides = sides
        self._rows = rows
        self._watched = []
        # what _told() looks up once behind an exchange: where the free unknowns stand in sums, and for each of the
        # others its name, the scale of its row, and the changes by it
        self._places = None
        self._exchanged = []

    def grown(self, sums):
        """Returns a table of these sums, too, or None if one of them is below 0, whatever the unknowns are."""
        told = self._told(sums)
        for row in told:
            if row[CONSTANT] < 0 and max(row[FIRST:], default=0) <= 0:
                return None
        behind = self._behind + len(sums)
        sides = self._sides + list(range(self._behind, behind))
        return Table(self._width, behind, self.columns, list(self._heads), sides, self._rows + told)

    def trim(self):
        """Leaves out sums that cannot come below 0, whatever the unknowns are."""
        kept = [place for place, row in enumerate(self._rows) if self._sides[place] < self._width or min(row) < 0]
        self._sides = [self._sides[place] for place in kept]
        self._rows = [self._rows[place] for place in kept]

    def settle(self):
        """Makes no sum below 0 while the free unknowns are 0, by exchanging some.

        It returns None, or the index of a sum that is always below 0.
        """
        index = self._first_below()
        while index is not None:
            column = self._first_rising(self._rows[index], self.columns)
            if column is None:
                return index
            self._exchange(index, column)
            index = self._first_below()
        return None

    def watch(self, sums):
        """Watches these sums, which need not be at least 0; their places in the list are their names."""
        self._watched = self._told(sums)

    def measure_by(self, place):
        """Makes a watched sum, now above 0, the unit; the unit that was is watched behind all others."""
        self._sides.append(self._behind)
        self._rows.append(self._watched[place])
        self._exchange(len(self._rows) - 1, CONSTANT)
        self._watched.append(self._rows[-1])

    def drive(self, place, sign, columns):
        """Makes a watched sum as great (sign 1) or as small (sign -1) as it can be, by these columns alone."""
        column = self._first_rising([sign * number for number in self._watched[place]], columns)
        while column is not None:
            self._exchange(self._tightest(column), column)
            column = self._first_rising([sign * number for number in self._watched[place]], columns)

    def unmoving(self, place):
        """Returns the columns of the free unknowns that leave a watched sum as it is."""
        row = self._watched[place]
        return [column for column in self.columns if row[column] == 0]

    def amount(self, place):
        """Returns how much a watched sum is while the free unknowns are 0, as a pair (above, below)."""
        row = self._watched[place]
        return row[CONSTANT], row[SCALE]

    def whole_amounts(self):
        """Returns the dict from the unknowns above 0 to how much they are, so many times that all are whole."""
        common = 1
        amounts = {}
        for name, row in zip(self._sides, self._rows):
            if name < self._width and row[CONSTANT] > 0:
                amounts[name] = (row[CONSTANT], row[SCALE])
                common = lcm(common, row[SCALE])
        return {name: above * (common // below) for name, (above, below) in amounts.items()}

    def reasons(self, index):
        """Returns how often to add up which sums to see that one of them is below 0, whatever the unknowns are.

        It is a dict from their names; what it lacks is not added.
        """
        row = self._rows[index]
        often = {self._heads[column]: -row[column] for column in self.columns}
        often[self._sides[index]] = row[SCALE]
        return often

    def _told(self, sums):
        """Returns the rows that tell sums by the free unknowns."""
        if self._places is None:
            # a sum has none of what stands behind its end
            behind = self._width
            self._places = [name if name < behind else behind for name in self._heads]
            self._exchanged = []
            for name, row in zip(self._sides, self._rows):
                if name < self._width:
                    self._exchanged.append((name, row[SCALE], _changes(row)))
        told = []
        for total in sums:
            longer = [*total, 0]
            row = [longer[place] for place in self._places]
            for name, scale, changes in self._exchanged:
                if total[name] != 0:
                    row = _mixed(row, row[SCALE] * total[name], changes, scale)
            told.append(row)
        return told

    # Of several rows or columns always the one with the least name is taken,
    # so that no exchange comes back to where it was.

    def _first_below(self):
        found = None
        for index, row in enumerate(self._rows):
            if row[CONSTANT] < 0 and (found is None or self._sides[index] < self._sides[found]):
                found = index
        return found

    def _first_rising(self, row, columns):
        found = None
        for column in columns:
            if row[column] > 0 and (found is None or self._heads[column] < self._heads[found]):
                found = column
        return found

    def _tightest(self, column):
        found = None
        above = below = 0
        for index, row in enumerate(self._rows):
            fall = -row[column]
            if fall > 0:
                # by how much less the unknown of the column can grow because of this sum than because of the other one
                less = 1 if found is None else above * fall - row[CONSTANT] * below
                if less > 0 or less == 0 and self._sides[index] < self._sides[found]:
                    found, above, below = index, row[CONSTANT], fall
        return found

    def _exchange(self, index, column):
        solved = _solved(self._rows.pop(index), column)
        self._rows = _replaced(self._rows, column, solved)
        self._rows.insert(index, solved)
        if self._watched:
            self._watched = _replaced(self._watched, column, solved)
        self._heads[column], self._sides[index] = self._sides[index], self._heads[column]
        self._places = None


def fresh_table(sums, columns):
    """Returns the table of these sums, one or more, of the unknowns of some columns; all others are 0."""
    width = len(sums[0])
    behind = width + len(sums)
    heads = [SCALE, CONSTANT, *columns]
    rows = [[total[name] for name in heads] for total in sums]
    return Table(width, behind, list(range(FIRST, len(heads))), heads, list(range(width, behind)), rows)


def _solved(row, column):
    """Returns the row that tells the unknown of a column by the others and by the sum of the row."""
    pivot = row[column]
    solved = [-number for number in row] if pivot > 0 else list(row)
    solved[SCALE] = abs(pivot)
    solved[column] = row[SCALE] if pivot > 0 else -row[SCALE]
    return solved


def _replaced(rows, column, solved):
    """Returns the rows in which what a solved row tells stands for the unknown of the column."""
    # so many times as a row has the unknown, that is added which turns it into what is told
    changed = list(solved)
    changed[column] -= solved[SCALE]
    changes = _changes(changed)
    scale = solved[SCALE]
    replaced = []
    for row in rows:
        times = row[column]
        replaced.append(_mixed(row, times, changes, scale) if times else row)
    return replaced


def _changes(row):
    """Returns the pairs (column, number) of what a row has behind its scale; most rows have little."""
    return [(column, number) for column, number in enumerate(row) if number != 0 and column != SCALE]


def _mixed(row, times, changes, scale):
    """Returns a row and so many times the changes by a scale, in whole numbers."""
    if scale == 1:
        mixed = list(row)
    else:
        common = gcd(times, scale)
        own = scale // common
        times = times // common
        mixed = [own * number for number in row]
    for column, number in changes:
        mixed[column] += times * number
    return mixed if mixed[SCALE] < LARGE else _shortened(mixed)


def _shortened(row):
    common = 0
    for number in row:
        common = gcd(common, number)
        if common == 1:
            return row
    return [number // common for number in row]
