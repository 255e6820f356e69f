"""What can come where it is told how many members there are."""

from manyvoices.counts import counted_crowd
from manyvoices.errors import BadMany
from manyvoices.forms import bound, members
from manyvoices.goals import check_goal
from manyvoices.kinds import is_integer
from manyvoices.questions import Question
from manyvoices.sheets import Sheet
from manyvoices.steps import run_of
from manyvoices.tables import CONSTANT, SCALE

MOST = 4


def numbers(protocol, goal, most, *, calm=False):
    """Returns all pairs (n, t), n at most most, with which a standing can come that meets a goal (and is calm)."""
    check_goal(protocol, goal)
    _check_many(most)
    census = Census(protocol, goal, calm)
    return [(n, t) for n in range(1, most + 1) for t in range(n + 1) if census.crowd(n, t) is not None]


def run_at(protocol, goal, n, t, *, calm=False):
    """Returns a run with just this n and t whose standing meets a goal (and is calm), or None if there is none."""
    check_goal(protocol, goal)
    _check_many(n)
    _check_many(t)
    crowd = Census(protocol, goal, calm).crowd(n, t)
    return None if crowd is None else run_of(protocol, crowd)


class Census:
    """Asks for standings of told numbers of members that meet a goal (and are calm)."""

    def __init__(self, protocol, goal, calm):
        self._sheet = Sheet(protocol)
        self._sums = self._sheet.comparison_sums(goal)
        self._calm = calm
        self._question = Question(self._sheet, self._sums, calm)
        self._forms = [self._sheet.form_sum(form) for form in (members(), bound())]

    def crowd(self, n, t):
        """Returns a crowd that comes to such a standing with just this n and t, or None if there is none."""
        fixed = [_at_least(form, many, sign) for form, many in zip(self._forms, (n, t)) for sign in (1, -1)]
        crowd = self._question.crowd(fixed)
        if crowd is None:
            return None
        own, _, _ = crowd.n_t_f()
        # with a crowd each multiple of it is one, too
        if n % own == 0:
            return crowd.multiplied(n // own)
        for f in range(min(t, n - 1) + 1):
            crowd = counted_crowd(self._sheet, self._sums, self._calm, (n, t, f))
            if crowd is not None:
                return crowd
        return None


def _check_many(thing):
    if not is_integer(thing) or not 0 <= thing <= MOST:
        raise BadMany(thing)


def _at_least(form, many, sign):
    """Returns the sum that a form, told by its sum, is at least so much (sign 1) or at most (sign -1)."""
    total = [sign * number for number in form]
    total[SCALE] = 1
    total[CONSTANT] = -sign * many
    return total
