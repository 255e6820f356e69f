"""Intervals of fractions, told as tuples (low, is_low, high, is_high)."""

from math import gcd


def lowest_terms(above, below):
    """Returns the pair of a fraction, above by below, in lowest terms; below is positive."""
    common = gcd(above, below)
    return above // common, below // common


def joined(intervals):
    """Returns the list of the fewest intervals that tell the same fractions, ascending."""
    left = list(intervals)
    found = []
    while left:
        first = _first_to_begin(left)
        left.remove(first)
        if found and _touches(found[-1], first):
            found[-1] = _both(found[-1], first)
        else:
            found.append(first)
    return found


def _excess(one, other):
    """Returns an integer that is above 0, 0, or below 0, as one fraction is above, at, or below the other."""
    return one[0] * other[1] - other[0] * one[1]


def _first_to_begin(intervals):
    first = intervals[0]
    for interval in intervals:
        excess = _excess(interval[0], first[0])
        if excess < 0 or excess == 0 and interval[1]:
            first = interval
    return first


def _touches(one, other):
    """Tells whether nothing lies between an interval and another one that does not begin ahead of it."""
    excess = _excess(other[0], one[2])
    return excess < 0 or excess == 0 and (one[3] or other[1])


def _both(one, other):
    excess = _excess(one[2], other[2])
    if excess < 0:
        return one[0], one[1], other[2], other[3]
    return one[0], one[1], one[2], one[3] or excess == 0 and other[3]
