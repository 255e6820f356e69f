"""Reads the comparisons of promises and of conditions off lines."""

from manyvoices.errors import BadText
from manyvoices.forms import above, at_least, bound, heard, members

MEMBERS = "n"
BOUND = "t"
AND = "and"
SAYS = "says"
# words that are no sorts where sums are read
RESERVED = ("n", "t", "and", "says")


class Sum:
    """A sum that is read part by part: a form of n, t and an integer, and pairs (sort, how many times)."""

    def __init__(self):
        self.form = 0 * members()
        self.voices = []

    def add(self, form):
        """Adds a form without sorts."""
        self.form = self.form + form

    def add_sort(self, sort, times):
        """Adds so many times a sort."""
        self.voices.append((sort, times))


def read_promise(line):
    """Returns the comparison of a promise."""
    form, sorts, sign = _sides(line)
    if sorts:
        raise BadText(line.number)
    return _compared(form, sign)


def read_condition(line):
    """Returns the comparison of a condition, if it is one that has sorts that are heard together."""
    form, sorts, sign = _sides(line)
    words = [sort for sort, _ in sorts]
    if not sorts or any([times != sorts[0][1] for _, times in sorts]):
        raise BadText(line.number)
    return _compared(form + sorts[0][1] * heard(*words), sign)


def _sides(line):
    """Returns the form and the sorts of two sums, all brought to the first side, and the sign between them."""
    first = _read_sum(line)
    sign = line.ahead()
    if not line.skips(">=", ">", "<=", "<"):
        raise BadText(line.number)
    second = _read_sum(line)
    sorts = [*first.voices, *[(sort, -times) for sort, times in second.voices]]
    return first.form - second.form, sorts, sign


def _compared(form, sign):
    """Returns the comparison of a form with 0."""
    if sign == ">=":
        return at_least(form, 0)
    if sign == ">":
        return above(form, 0)
    return at_least(0, form) if sign == "<=" else above(0, form)


def _read_sum(line):
    total = Sum()
    factor = _read_sign(line)
    _read_part(line, total, 1 if factor == 0 else factor)
    factor = _read_sign(line)
    while factor != 0:
        _read_part(line, total, factor)
        factor = _read_sign(line)
    return total


def _read_sign(line):
    """Goes on behind a sign of sums, if one comes next; returns 1 for plus, -1 for minus, 0 for none."""
    if line.skips("+"):
        return 1
    return -1 if line.skips("-") else 0


def _read_part(line, total, factor):
    """Adds a part of a sum, so many times, to a total."""
    is_bare = not line.has_integer()
    times = factor if is_bare else factor * line.take_integer()
    if line.skips("("):
        total.add_sort(_read_sort(line), times)
        while line.skips("+"):
            total.add_sort(_read_sort(line), times)
        line.expect(")")
    elif line.skips(MEMBERS):
        total.add(times * members())
    elif line.skips(BOUND):
        total.add(times * bound())
    elif is_bare or line.has_word() and line.ahead() not in RESERVED:
        total.add_sort(_read_sort(line), times)
    else:
        total.add(times)


def _read_sort(line):
    if line.ahead() in RESERVED:
        raise BadText(line.number)
    return line.take_word()
