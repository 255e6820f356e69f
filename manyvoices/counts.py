"""Counts members one by one, where it is told how many there are."""

from manyvoices.crowds import Crowd
from manyvoices.sheets import FAULTY, FIRST_WAY, MORE
from manyvoices.tables import CONSTANT
from manyvoices.ways import STAYS


def counted_crowd(sheet, sums, calm, many):
    """Returns a crowd of just these numbers n, t, f that comes to meet sums (and to be calm), or None."""
    # who has stopped is told by the ways, so that no more stop than are faulty has to be asked for
    left = [([*sums, *sheet.base, *sheet.last_sums()[3:]], (1 << len(sheet.thresholds)) - 1)]
    while left:
        asked, within = left.pop()
        amounts = Count(sheet, asked).amounts(many)
        if amounts is not None:
            crowd = Crowd(sheet, amounts)
            needed = crowd.what_else(within, calm)
            if not needed:
                return crowd
            left.extend([([*asked, total], bits) for total, bits in needed])
    return None


class Count:
    """Sums ready to be met by told numbers of members."""

    def __init__(self, sheet, sums):
        self._stopping = sheet.stopping
        self._sums = sums
        # from what a way is worth in the sums to its column, and whether who goes it stops
        worths = {}
        for column, way in enumerate(sheet.ways, FIRST_WAY):
            idle = 0 if way.ending == STAYS else 1
            worths.setdefault(tuple([total[column] - idle * total[FAULTY] for total in sums]), (column, idle))
        self._worths = [pair for pair in worths.items() if not _is_outdone(pair[0], list(worths))]
        columns = [[mine[place] for mine, _ in self._worths] for place in range(len(sums))]
        self._least = [min(column, default=0) for column in columns]
        self._most = [max(column, default=0) for column in columns]

    def amounts(self, many):
        """Returns the numbers of a crowd of just these numbers n, t, f that meets all sums, or None."""
        n, t, f = many
        going = n if self._stopping else n - f
        lacking = [-total[CONSTANT] - total[MORE] * (t - f) - total[FAULTY] * f for total in self._sums]
        # from what the sums still lack to ways of members by which it comes to that
        level = {tuple(lacking): []}
        for left in reversed(range(going)):
            level = self._one_more(level, left)
        for chosen in level.values():
            return self._told(t - f, f, chosen)
        return None

    def _told(self, more, f, chosen):
        """Returns the numbers by their columns; those that stop are faulty, too."""
        amounts = {MORE: more, FAULTY: f}
        for place in chosen:
            _, (column, idle) = self._worths[place]
            amounts[column] = amounts.get(column, 0) + 1
            amounts[FAULTY] -= idle
        return {column: amount for column, amount in amounts.items() if amount > 0}

    def _one_more(self, level, left):
        """Returns what the sums lack with one member more, where those that are left can bring it."""
        lowest = [left * least for least in self._least]
        highest = [left * most for most in self._most]
        found = {}
        for lacking, chosen in level.items():
            for place, (mine, _) in enumerate(self._worths):
                # all that lack no more than the others bring in any case are alike
                rest = [max(lack - worth, low) for lack, worth, low in zip(lacking, mine, lowest)]
                if all([lack <= high for lack, high in zip(rest, highest)]):
                    found.setdefault(tuple(rest), [*chosen, place])
        return found


def _is_outdone(mine, others):
    """Tells whether others are worth as much in all sums, and more in some."""
    return any([other != mine and _is_worth_as_much(other, mine) for other in others])


def _is_worth_as_much(one, other):
    return all([worth >= least for worth, least in zip(one, other)])
