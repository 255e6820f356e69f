"""What can come where it is told how many members there are."""

from manyvoices.cases import all_cases
from manyvoices.counts import Count
from manyvoices.errors import BadMany
from manyvoices.goals import check_goal
from manyvoices.kinds import is_integer
from manyvoices.sheets import Sheet
from manyvoices.steps import run_of

MOST = 4


def numbers(protocol, goal, most, *, calm=False):
    """Returns all pairs (n, t), n at most most, with which a standing can come that meets a goal (and is calm)."""
    check_goal(protocol, goal)
    _check_many(most)
    counts = _counts(protocol, goal, calm)
    pairs = [(n, t) for n in range(1, most + 1) for t in range(n + 1)]
    return [(n, t) for n, t in pairs if _found(counts, n, t) is not None]


def run_at(protocol, goal, n, t, *, calm=False):
    """Returns a run with just this n and t whose standing meets a goal (and is calm), or None if there is none."""
    check_goal(protocol, goal)
    _check_many(n)
    _check_many(t)
    found = _found(_counts(protocol, goal, calm), n, t)
    if found is None:
        return None
    case, crowd = found
    return run_of(protocol, case.order, crowd)


def _check_many(thing):
    if not is_integer(thing) or not 0 <= thing <= MOST:
        raise BadMany(thing)


def _counts(protocol, goal, calm):
    sheet = Sheet(protocol)
    # cases that cannot be for any numbers are not among them
    return [Count(sheet, case) for case in all_cases(sheet, sheet.comparison_sums(goal), calm)]


def _found(counts, n, t):
    """Returns a pair (case, crowd) with n and t and some number of faulty ones, or None."""
    for count in counts:
        for f in range(min(t, n - 1) + 1):
            crowd = count.crowd(n, t, f)
            if crowd is not None:
                return count.case, crowd
    return None
