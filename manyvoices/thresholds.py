"""Thresholds: what conditions ask for."""

from manyvoices.protocols import heard_term


class Threshold:
    """A condition: so many times the voices that are heard of some sorts are at least a n + b t + d.

    It is open where a share of all members, which is not told, stands in the
    place of a. sums are those that it is met, by the conditions that are met
    ahead of it, told as bits, unmet the one that it is not met surely: they
    are kept, as they are asked for often.
    """

    def __init__(self, heard, times, integers, is_open=False):
        self.heard = heard
        self.times = times
        self.a, self.b, self.d = integers
        self.is_open = is_open
        self.sums = {}
        self.unmet = None

    def asking(self, integers):
        """Returns the threshold that asks for other integers a, b, d of the same voices."""
        return Threshold(self.heard, self.times, integers)

    def opened(self):
        """Returns the threshold that asks for a share of all members in the place of a."""
        return Threshold(self.heard, self.times, (0, self.b, self.d), True)


def threshold_of(condition):
    """Returns the threshold of a condition."""
    integers = {term: integer for term, integer in condition.terms()}
    term = heard_term(condition)
    return Threshold(
        term[1:],
        integers[term],
        (-integers.get(("n",), 0), -integers.get(("t",), 0), condition.constant),
    )
