"""Sheets: the sums of a protocol, for which it only matters how many members go which way."""

from manyvoices.thresholds import threshold_of
from manyvoices.ways import STAYS, ways_of

# the places in sums of how many more faulty ones are borne than there are, of the faulty ones that have not
# stopped, and of those that go the first way
MORE = 2
FAULTY = 3
FIRST_WAY = 4


class Sheet:
    """A protocol with its ways and conditions, made ready for sums.

    A sum is a row of a table: by how much a form is above a constant, told by
    unknowns that are 0 or more: those of MORE and FAULTY, and how many go
    each way. t, f and n are sums of these themselves.

    Rules, promises or faults that are passed stand for those of the protocol.
    The condition that stands apart, told by the name of its rule and its
    index, has the last number, even if another one asks for the same; it can
    be exchanged. If it is open, the last unknown is the share that it asks
    for, times n.
    """

    def __init__(self, protocol, rules=None, promise=None, faults=None, apart=None, is_open=False):
        rules = protocol.rules() if rules is None else rules
        faults = protocol.faults if faults is None else faults
        self.stopping = faults == "stopping"
        self.is_open = is_open
        self._lying = faults == "lying"
        conditions = _unlike_conditions(rules, apart)
        self.thresholds = [threshold_of(condition) for condition in conditions]
        if apart is not None:
            own = threshold_of(protocol.rule(apart[0]).when[apart[1]])
            self.thresholds.append(own.opened() if is_open else own)
        self.numbers = list(range(len(self.thresholds)))
        needs = [_needs(rule, conditions, apart) for rule in rules]
        # the starts of the rules, with the numbers of the conditions of these
        self.starts = [(rule.start, numbers) for rule, numbers in zip(rules, needs)]
        self.ways = ways_of(protocol.begins(), rules, [bits_of(numbers) for numbers in needs], self.stopping)
        self._share = [FIRST_WAY + len(self.ways)] if is_open else []
        self._numbered = list(enumerate(self.ways, FIRST_WAY))
        # what the ways need, as bits, and where those stand in the end that go them, by their columns
        self.marks = [0] * FIRST_WAY + [way.mark for way in self.ways] + [0]
        self.ends = [None] * FIRST_WAY + [way.end for way in self.ways] + [None]
        self.columns = [MORE, FAULTY, *[column for column, _ in self._numbered], *self._share]
        self._stopped = [column for column, way in self._numbered if way.ending != STAYS]
        # what is looked up once it is asked for: the columns that count for a term, those that say a sort, and
        # sums that ways are left
        self._counting = {}
        self._sayers = {}
        self._left = {}
        self._calm = None
        self.promises = self.comparison_sums(protocol.promise() if promise is None else promise)
        self.base = self._base_sums()

    def exchange(self, integers):
        """Makes the condition that stands apart ask for other integers a, b, d."""
        self.thresholds[-1] = self.thresholds[-1].asking(integers)

    def hush(self):
        """Makes faulty ones that lie silent."""
        self._lying = False
        for threshold in self.thresholds:
            threshold.sums = {}

    def comparison_sums(self, comparisons):
        """Returns the sums of promises, or of a goal."""
        return [self._sum(comparison.terms(), comparison.constant) for comparison in comparisons]

    def form_sum(self, form):
        """Returns the sum of a form without rest."""
        return self._sum(form.terms(), 0)

    def standing_sum(self, place):
        """Returns the sum that somebody stands at a place."""
        return self._sum([(("at", place), 1)], 1)

    def share_sum(self):
        """Returns the sum of the share for which the open condition asks, times n."""
        total = self._plain(0, 0, 0, 0)
        total[-1] = 1
        return total

    def met_sum(self, number, met):
        """Returns the sum that a condition is met as it may be, by what is said while some are met, told as bits."""
        threshold = self.thresholds[number]
        total = threshold.sums.get(met)
        if total is None:
            times = threshold.times
            total = self._plain(-threshold.a, -threshold.b, times if self._lying else 0, threshold.d)
            for sort in threshold.heard:
                for column, mark in self._sayers_of(sort):
                    if mark | met == met:
                        total[column] += times
            if threshold.is_open:
                total[-1] = -1
            threshold.sums[met] = total
        return total

    def unmet_sum(self, number):
        """Returns the sum that a condition is not met surely."""
        threshold = self.thresholds[number]
        if threshold.unmet is None:
            voices = [(("said", sort), -threshold.times) for sort in threshold.heard]
            total = self._sum([(("n",), threshold.a), (("t",), threshold.b), *voices], 1 - threshold.d)
            if threshold.is_open:
                total[-1] = 1
            threshold.unmet = total
        return threshold.unmet

    def order_sums(self, order):
        """Returns the sums that the conditions of an order are met one behind another."""
        sums = []
        met = 0
        for number in order:
            sums.append(self.met_sum(number, met))
            met += 1 << number
        return sums

    def last_sums(self):
        """Returns the sums of f <= t, of t <= n, of f < n, and that no more stop than are faulty."""
        sums = [self._plain(0, 1, -1, 0), self._plain(1, -1, 0, 0), self._plain(1, 0, -1, 1)]
        if self.stopping:
            idle = self._plain(0, 0, 0, 0)
            idle[FAULTY] = 1
            sums.append(idle)
        return sums

    def way(self, column):
        """Returns the way of a column, or None if it is that of another unknown."""
        place = column - FIRST_WAY
        return self.ways[place] if 0 <= place < len(self.ways) else None

    def within_sum(self, met):
        """Returns the sum that nobody goes a way that needs other conditions than some, told as bits."""
        if met not in self._left:
            self._left[met] = self._none_of([column for column, way in self._numbered if way.mark | met != met])
        return self._left[met]

    def empty_sum(self, place):
        """Returns the sum that nobody stands at a place."""
        return self._none_of(self._columns_of(("at", place)))

    def calm_columns(self):
        """Returns the columns of the unknowns, but not of ways that end where a rule asks for nothing."""
        if self._calm is None:
            left = [start for start, numbers in self.starts if not numbers]
            ways = [column for column, way in self._numbered if way.end not in left]
            self._calm = [MORE, FAULTY, *ways, *self._share]
        return self._calm

    def open_columns(self, met, barred):
        """Returns the columns of the unknowns, but not of ways that need other conditions, or end at barred places."""
        ways = [column for column, way in self._numbered if way.mark | met == met and way.end not in barred]
        return [MORE, FAULTY, *ways, *self._share]

    def barred_places(self, few):
        """Returns the starts of the rules none of whose conditions is one of few."""
        return [start for start, numbers in self.starts if not any([number in few for number in numbers])]

    def _columns_of(self, term):
        """Returns the columns of the ways that count for a term."""
        if term not in self._counting:
            kind, word = term
            if kind == "at":
                columns = [column for column, way in self._numbered if way.end == word]
            elif kind == "begun":
                columns = [column for column, way in self._numbered if way.begin == word]
            else:
                columns = [column for column, way in self._numbered if way.says_in_full(word)]
            self._counting[term] = columns
        return self._counting[term]

    def _sayers_of(self, sort):
        """Returns the pairs (column, mark) of the ways by which a sort is said."""
        if sort not in self._sayers:
            pairs = [(column, way.mark_of(sort)) for column, way in self._numbered]
            self._sayers[sort] = [pair for pair in pairs if pair[1] is not None]
        return self._sayers[sort]

    def _sum(self, terms, constant):
        n = t = f = 0
        counted = []
        for term, integer in terms:
            if term[0] == "n":
                n = integer
            elif term[0] == "t":
                t = integer
            elif term[0] == "f":
                f = integer
            else:
                counted.append((self._columns_of(term), integer))
        total = self._plain(n, t, f, constant)
        for columns, integer in counted:
            for column in columns:
                total[column] += integer
        return total

    def _plain(self, n, t, f, constant):
        """Returns the sum of so many times n, t and f above a constant."""
        faulty = f + t if self.stopping else n + f + t
        total = [1, -constant, t, faulty] + [n] * len(self.ways)
        for column in self._stopped:
            total[column] += f + t
        return [*total, 0] if self.is_open else total

    def _none_of(self, columns):
        total = self._plain(0, 0, 0, 0)
        for column in columns:
            total[column] = -1
        return total

    def _base_sums(self):
        """Returns the sums that each standing meets and that do not go without saying."""
        sums = [*self.promises, self._plain(1, -1, 0, 0), self._plain(1, 0, -1, 1)]
        if self.is_open:
            rest = self._plain(1, 0, 0, 0)
            rest[-1] = -1
            sums.append(rest)
        return sums


def _unlike_conditions(rules, apart):
    """Returns the list of all unlike conditions of rules but the one that stands apart."""
    conditions = []
    for rule in rules:
        for index, condition in enumerate(rule.when):
            if (rule.name, index) != apart and condition not in conditions:
                conditions.append(condition)
    return conditions


def _needs(rule, conditions, apart):
    """Returns the numbers of the conditions of a rule; the one that stands apart comes behind the others."""
    numbers = []
    for index, condition in enumerate(rule.when):
        is_apart = (rule.name, index) == apart
        numbers.append(len(conditions) if is_apart else conditions.index(condition))
    return numbers


def bits_of(numbers):
    """Returns numbers as bits."""
    bits = 0
    for number in numbers:
        bits = bits | 1 << number
    return bits
