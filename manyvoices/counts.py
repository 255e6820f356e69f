"""Counts members one by one, where it is told how many there are."""

from manyvoices.cases import Crowd, unlike_ways


class Count:
    """A case and a goal, ready to be looked at for told numbers."""

    def __init__(self, sheet, case, goal_rows):
        self.case = case
        self._stopping = sheet.stopping
        self._rows = sheet.rows_of(case, goal_rows)
        ways = unlike_ways(sheet, case, self._rows)
        self._worths = _best({way: [row.worths[way] for row in self._rows] for way in ways})
        columns = [[mine[place] for mine in self._worths.values()] for place in range(len(self._rows))]
        self._least = [min(column, default=0) for column in columns]
        self._most = [max(column, default=0) for column in columns]

    def crowd(self, n, t, f):
        """Returns a crowd of just these numbers with which all rows hold, or None."""
        going = n if self._stopping else n - f
        lacking = [row.constant - row.n * n - row.t * t - row.f * f for row in self._rows]
        # from what the rows still lack to ways of members by which it comes to that
        level = {tuple(lacking): []}
        for left in reversed(range(going)):
            level = self._one_more(level, left)
        for chosen in level.values():
            return Crowd(t, f, [(way, chosen.count(way)) for way in self._worths if way in chosen])
        return None

    def _one_more(self, level, left):
        """Returns what the rows lack with one member more, where those that are left can bring it."""
        lowest = [left * least for least in self._least]
        highest = [left * most for most in self._most]
        found = {}
        for lacking, chosen in level.items():
            for way, mine in self._worths.items():
                # all that lack no more than the others bring in any case are alike
                rest = [max(lack - worth, low) for lack, worth, low in zip(lacking, mine, lowest)]
                if all([lack <= high for lack, high in zip(rest, highest)]):
                    found.setdefault(tuple(rest), [*chosen, way])
        return found


def _best(worths):
    """Returns what is left of the dict from ways to their worths without the ways that others outdo in all rows."""
    kept = {}
    for way in worths:
        others = [worths[other] for other in worths if other != way]
        if not any([_is_worth_as_much(other, worths[way]) for other in others]):
            kept[way] = worths[way]
    return kept


def _is_worth_as_much(one, other):
    return all([worth >= least for worth, least in zip(one, other)])
