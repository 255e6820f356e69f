"""Crowds: how many members go which way, whether they can, and what they would have to do else."""

from math import gcd

from manyvoices.sheets import FAULTY, MORE
from manyvoices.tables import CONSTANT
from manyvoices.ways import STAYS


class Crowd:
    """How many members go which way: whole numbers for the unknowns of a sheet, by their columns, those above 0.

    order holds the conditions that their ways need and that come to be met,
    one behind another, as they go as far as they can. Where this is not as
    far as their ways lead, the others that come to be met stand behind these.
    met are the same as bits.
    """

    def __init__(self, sheet, amounts):
        self._sheet = sheet
        self._amounts = amounts
        self._pairs = list(amounts.items())
        self.order = []
        self.met = 0
        self._needed = 0
        for column, _ in self._pairs:
            self._needed = self._needed | sheet.marks[column]
        if self._needed:
            self._go([number for number in sheet.numbers if self._needed >> number & 1])
        if self._lacks_conditions():
            # nobody here goes further by the others
            self._go(sheet.numbers)

    def goers(self):
        """Returns the list of the pairs (a way, how many go it)."""
        pairs = [(self._sheet.way(column), many) for column, many in self._pairs]
        return [(way, many) for way, many in pairs if way is not None]

    def n_t_f(self):
        """Returns the numbers n, t and f."""
        goers = self.goers()
        going = sum([many for _, many in goers])
        stopped = sum([many for way, many in goers if way.ending != STAYS])
        f = self._amounts.get(FAULTY, 0) + stopped
        return going if self._sheet.stopping else going + f, self._amounts.get(MORE, 0) + f, f

    def least(self):
        """Returns the crowd of the least whole numbers that are to one another as these are."""
        common = 0
        for many in self._amounts.values():
            common = gcd(common, many)
        # the constants are 0 or 1, so sums that hold for whole numbers hold for each whole part of them
        return Crowd(self._sheet, {column: many // common for column, many in self._pairs})

    def multiplied(self, factor):
        """Returns the crowd with so many times the numbers."""
        return Crowd(self._sheet, {column: factor * many for column, many in self._pairs})

    def places(self):
        """Returns the list of the places at which somebody stands."""
        ends = self._sheet.ends
        return [ends[column] for column, _ in self._pairs if ends[column] is not None]

    def few(self):
        """Returns the numbers of the conditions that are not met surely."""
        return [number for number in range(len(self._sheet.thresholds)) if self._is_unmet(number)]

    def what_else(self, within, calm):
        """Returns what else is needed, if the members cannot go their ways (or are not calm then), else nothing.

        It is a list of pairs (sum, bits) such that one of the sums is met
        wherever members can go their ways by no other conditions than those
        of within (and are calm then); and these are by no others than those
        of the bits.
        """
        sheet = self._sheet
        if self._lacks_conditions():
            # either no more conditions come to be met than here, or another one is the first of those that do
            others = within - (within & self.met)
            first = [(sheet.met_sum(number, self.met), within) for number in sheet.numbers if others >> number & 1]
            return [(sheet.within_sum(self.met), within & self.met), *first]
        if calm:
            held = self.places()
            for place, numbers in sheet.starts:
                if place in held and not any([self._is_unmet(number) for number in numbers]):
                    unmet = [(sheet.unmet_sum(number), within) for number in numbers]
                    return [(sheet.empty_sum(place), within), *unmet]
        return []

    def _lacks_conditions(self):
        """Tells whether some ways need more conditions than are met."""
        return self._needed | self.met != self.met

    def _go(self, numbers):
        """Lets members go as far as they can by some conditions more."""
        ahead = None
        while ahead != self.met:
            ahead = self.met
            for number in numbers:
                if not self.met >> number & 1 and self._is_met(self._sheet.met_sum(number, self.met)):
                    self.order.append(number)
                    self.met += 1 << number

    def _is_unmet(self, number):
        return self._is_met(self._sheet.unmet_sum(number))

    def _is_met(self, total):
        """Tells whether a sum is at least 0."""
        worth = total[CONSTANT]
        for column, many in self._pairs:
            worth += total[column] * many
        return worth >= 0
