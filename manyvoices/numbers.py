"""What can come where it is told how many members there are."""

from manyvoices.cases import Cases
from manyvoices.counts import Count
from manyvoices.errors import BadMany
from manyvoices.goals import check_goal
from manyvoices.kinds import is_integer
from manyvoices.steps import run_of

MOST = 4


def numbers(protocol, goal, most, *, calm=False):
    """Returns all pairs (n, t), n at most most, with which a standing can come that meets a goal (and is calm)."""
    check_goal(protocol, goal)
    _check_many(most)
    counts = _counts(Cases(protocol), goal, calm)
    pairs = [(n, t) for n in range(1, most + 1) for t in range(n + 1)]
    return [(n, t) for n, t in pairs if _found(counts, n, t) is not None]


def run_at(protocol, goal, n, t, *, calm=False):
    """Returns a run with just this n and t whose standing meets a goal (and is calm), or None if there is none."""
    check_goal(protocol, goal)
    _check_many(n)
    _check_many(t)
    cases = Cases(protocol)
    found = _found(_counts(cases, goal, calm), n, t)
    if found is None:
        return None
    case, crowd = found
    return run_of(cases.sheet, case, crowd)


def _check_many(thing):
    if not is_integer(thing) or not 0 <= thing <= MOST:
        raise BadMany(thing)


def _counts(cases, goal, calm):
    goal_rows = cases.sheet.comparison_rows(goal)
    # cases that cannot be for any numbers are not among them
    return [Count(cases.sheet, case, goal_rows) for case in cases.met(goal_rows, calm)]


def _found(counts, n, t):
    """Returns a pair (case, crowd) with n and t and some number of faulty ones, or None."""
    for count in counts:
        for f in range(min(t, n - 1) + 1):
            crowd = count.crowd(n, t, f)
            if crowd is not None:
                return count.case, crowd
    return None
