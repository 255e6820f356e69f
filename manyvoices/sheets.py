"""Sheets: the sums of a protocol, for which it only matters how many members go which way."""

from manyvoices.thresholds import threshold_of
from manyvoices.ways import STAYS, ways_of

# the places in sums of how many more faulty ones are borne than there are, of the faulty ones that have not
# stopped, and of those that go the first way
MORE = 2
FAULTY = 3
FIRST_WAY = 4


class Sheet:
    """A protocol with its ways and conditions, made ready for sums.

    A sum is a row of a table: by how much a form is above a constant, told by
    unknowns that are 0 or more: those of MORE and FAULTY, and how many go
    each way. t, f and n are sums of these themselves.

    The condition that stands apart, told by the name of its rule and its
    index, has the last number, even if another one asks for the same; it can
    be exchanged. If it is open, the last unknown is the share that it asks
    for, times n.
    """

    def __init__(self, protocol, apart=None, is_open=False):
        self.protocol = protocol
        self.stopping = protocol.faults == "stopping"
        self.is_open = is_open
        rules = protocol.rules()
        conditions = _unlike_conditions(rules, apart)
        self.thresholds = [threshold_of(condition) for condition in conditions]
        needs = [_needs(rule, conditions, apart) for rule in rules]
        if apart is not None:
            own = threshold_of(protocol.rule(apart[0]).when[apart[1]])
            self.thresholds.append(own.opened() if is_open else own)
        self._starts = [(rule.start, bits) for rule, bits in zip(rules, needs)]
        self.ways = ways_of(protocol, needs)
        # where the ways end that stay somewhere, by their columns
        self._ends = [None, None, None, None, *[way.end for way in self.ways], None]
        self._stopped = []
        # the columns that count for a term, and the pairs (column, mark) of those that say a sort
        self._counting = {}
        self._sayers = {}
        self._look_up_ways()
        self._open = {}
        self._blocks = {}
        self._choices = []
        self.promises = self.comparison_sums(protocol.promise())
        self.last = self._last_sums()
        self.base = self._base_sums()
        self.all_columns = self.open_columns((1 << len(self.thresholds)) - 1)

    def exchange(self, integers):
        """Makes the condition that stands apart ask for other integers a, b, d."""
        self.thresholds[-1] = self.thresholds[-1].asking(integers)
        self._choices = []

    def comparison_sums(self, comparisons):
        """Returns the sums of promises, or of a goal."""
        return [self._sum(comparison.terms(), comparison.constant) for comparison in comparisons]

    def form_sum(self, form):
        """Returns the sum of a form without rest."""
        return self._sum(form.terms(), 0)

    def standing_sum(self, place):
        """Returns the sum that somebody stands at a place."""
        return self._sum([(("at", place), 1)], 1)

    def share_sum(self):
        """Returns the sum of the share for which the open condition asks, times n."""
        total = self._plain(0, 0, 0, 0)
        total[-1] = 1
        return total

    def met_sum(self, number, met):
        """Returns the sum that a condition is met as it may be, by what is said while some are met, told as bits."""
        threshold = self.thresholds[number]
        if met not in threshold.sums:
            lies = threshold.times if self.protocol.faults == "lying" else 0
            total = self._plain(-threshold.a, -threshold.b, lies, threshold.d)
            for sort in threshold.heard:
                for column, mark in self._sayers.get(sort, ()):
                    if mark | met == met:
                        total[column] += threshold.times
            if threshold.is_open:
                total[-1] = -1
            threshold.sums[met] = total
        return threshold.sums[met]

    def unmet_sum(self, number):
        """Returns the sum that a condition is not met surely."""
        threshold = self.thresholds[number]
        voices = [(("said", sort), -threshold.times) for sort in threshold.heard]
        total = self._sum([(("n",), threshold.a), (("t",), threshold.b), *voices], 1 - threshold.d)
        if threshold.is_open:
            total[-1] = 1
        return total

    def order_sums(self, order):
        """Returns the sums that the conditions of an order are met one behind another."""
        sums = []
        met = 0
        for number in order:
            sums.append(self.met_sum(number, met))
            met += 1 << number
        return sums

    def way(self, column):
        """Returns the way of a column."""
        return self.ways[column - FIRST_WAY]

    def open_columns(self, met):
        """Returns the columns of all unknowns that need not be 0 while some conditions are met, told as bits."""
        if met not in self._open:
            ways = [column for column, way in enumerate(self.ways, FIRST_WAY) if way.mark | met == met]
            share = [FIRST_WAY + len(self.ways)] if self.is_open else []
            self._open[met] = [MORE, FAULTY, *ways, *share]
        return self._open[met]

    def blocks(self, met):
        """Returns the lists of conditions that open ways if they are met, too, and no fewer of them do."""
        if met not in self._blocks:
            lacking = []
            for way in self.ways:
                marks = [mark for mark in way.marks if mark | met != met]
                if marks and marks[0] - (marks[0] & met) not in lacking:
                    lacking.append(marks[0] - (marks[0] & met))
            self._blocks[met] = [numbers_of(bits) for bits in lacking if not _has_less(bits, lacking)]
        return self._blocks[met]

    def barred_places(self, few):
        """Returns the starts of the rules none of whose conditions is one of few, told as bits."""
        starts = [start for start, bits in self._starts if bits & few == 0]
        return sorted(set(starts))

    def choices(self):
        """Returns the pairs (sums, columns) of all choices of few conditions that are needed for calm standings.

        The sums are that these conditions are not met surely, the columns
        those of the ways that do not end at places that are barred by it.
        """
        if not self._choices:
            unmet = [self.unmet_sum(number) for number in range(len(self.thresholds))]
            barred = [self.barred_places(few) for few in range(1 << len(self.thresholds))]
            for few, places in enumerate(barred):
                numbers = numbers_of(few)
                # few that bar no more without one of them are not needed
                if places not in [barred[few - (1 << number)] for number in numbers]:
                    columns = [column for column in self.all_columns if self._ends[column] not in places]
                    self._choices.append(([unmet[number] for number in numbers], columns))
        return self._choices

    def _look_up_ways(self):
        for column, way in enumerate(self.ways, FIRST_WAY):
            if way.ending != STAYS:
                self._stopped.append(column)
            ends = [("at", way.end)] if way.ending == STAYS else []
            for term in [("begun", way.begin), *ends, *[("said", sort) for sort in way.in_full()]]:
                self._counting.setdefault(term, []).append(column)
            for sort, mark in way.voices:
                self._sayers.setdefault(sort, []).append((column, mark))

    def _sum(self, terms, constant):
        integers = {term: integer for term, integer in terms}
        total = self._plain(
            integers.get(("n",), 0),
            integers.get(("t",), 0),
            integers.get(("f",), 0),
            constant,
        )
        for term, integer in terms:
            for column in self._counting.get(term, ()):
                total[column] += integer
        return total

    def _plain(self, n, t, f, constant):
        """Returns the sum of so many times n, t and f above a constant."""
        faulty = f + t if self.stopping else n + f + t
        total = [1, -constant, t, faulty, *[n for _ in self.ways]]
        for column in self._stopped:
            total[column] += f + t
        return [*total, 0] if self.is_open else total

    def _last_sums(self):
        sums = [self._plain(0, 1, -1, 0), self._plain(1, -1, 0, 0), self._plain(1, 0, -1, 1)]
        if self.stopping:
            idle = self._plain(0, 0, 0, 0)
            idle[FAULTY] = 1
            sums.append(idle)
        return sums

    def _base_sums(self):
        """Returns the sums that each standing meets and that do not go without saying."""
        sums = [*self.promises, self.last[1], self.last[2]]
        if self.is_open:
            rest = self._plain(1, 0, 0, 0)
            rest[-1] = -1
            sums.append(rest)
        return sums


def bits_of(numbers):
    """Returns unlike numbers as bits."""
    return sum([1 << number for number in numbers])


def numbers_of(bits):
    """Returns the ascending list of the numbers whose bits are set."""
    return [number for number in range(bits.bit_length()) if bits >> number & 1]


def _unlike_conditions(rules, apart):
    """Returns the list of all unlike conditions of rules but the one that stands apart."""
    conditions = []
    for rule in rules:
        for index, condition in enumerate(rule.when):
            if (rule.name, index) != apart and condition not in conditions:
                conditions.append(condition)
    return conditions


def _needs(rule, conditions, apart):
    """Returns the conditions that a rule needs, as bits; the one that stands apart comes behind the others."""
    bits = 0
    for index, condition in enumerate(rule.when):
        is_apart = (rule.name, index) == apart
        bits = bits | 1 << (len(conditions) if is_apart else conditions.index(condition))
    return bits


def _has_less(bits, others):
    return any([other != bits and other & bits == other for other in others])
