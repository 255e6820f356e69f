"""Counts members one by one, where it is told how many there are."""

from manyvoices.cases import Crowd
from manyvoices.sheets import FAULTY, FIRST_WAY, MORE
from manyvoices.tables import CONSTANT
from manyvoices.ways import STAYS


class Count:
    """A case ready to be looked at for told numbers."""

    def __init__(self, sheet, case):
        self.case = case
        self._stopping = sheet.stopping
        # who has stopped is told by the ways, so that no more stop than are faulty has to be asked for
        self._sums = [*sheet.order_sums(case.order), *case.sums, *sheet.last[3:]]
        ways = [column for column in case.columns if column >= FIRST_WAY]
        worths = {}
        for column in ways:
            way = sheet.ways[column - FIRST_WAY]
            idle = 0 if way.ending == STAYS else 1
            worths.setdefault(tuple([total[column] - idle * total[FAULTY] for total in self._sums]), way)
        self._worths = [pair for pair in worths.items() if not _is_outdone(pair[0], list(worths))]
        columns = [[mine[place] for mine, _ in self._worths] for place in range(len(self._sums))]
        self._least = [min(column, default=0) for column in columns]
        self._most = [max(column, default=0) for column in columns]

    def crowd(self, n, t, f):
        """Returns a crowd of just these numbers that meets all sums, or None."""
        going = n if self._stopping else n - f
        lacking = [-total[CONSTANT] - total[MORE] * (t - f) - total[FAULTY] * f for total in self._sums]
        # from what the sums still lack to ways of members by which it comes to that
        level = {tuple(lacking): []}
        for left in reversed(range(going)):
            level = self._one_more(level, left)
        for chosen in level.values():
            return Crowd(t, f, [(way, chosen.count(place)) for place, (_, way) in enumerate(self._worths)])
        return None

    def _one_more(self, level, left):
        """Returns what the sums lack with one member more, where those that are left can bring it."""
        lowest = [left * least for least in self._least]
        highest = [left * most for most in self._most]
        found = {}
        for lacking, chosen in level.items():
            for place, (mine, _) in enumerate(self._worths):
                # all that lack no more than the others bring in any case are alike
                rest = [max(lack - worth, low) for lack, worth, low in zip(lacking, mine, lowest)]
                if all([lack <= high for lack, high in zip(rest, highest)]):
                    found.setdefault(tuple(rest), [*chosen, place])
        return found


def _is_outdone(mine, others):
    """Tells whether others are worth as much in all sums, and more in some."""
    return any([other != mine and _is_worth_as_much(other, mine) for other in others])


def _is_worth_as_much(one, other):
    return all([worth >= least for worth, least in zip(one, other)])
