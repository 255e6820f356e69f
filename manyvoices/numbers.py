"""What can come where it is told how many members there are."""

from manyvoices.counts import counted_crowd
from manyvoices.errors import BadMany
from manyvoices.forms import bound, faulty, members
from manyvoices.goals import check_goal
from manyvoices.kinds import is_integer
from manyvoices.questions import question_of
from manyvoices.sheets import Sheet
from manyvoices.steps import run_of
from manyvoices.tables import CONSTANT, SCALE

MOST = 4


def numbers(protocol, goal, most, *, calm=False):
    """Returns all pairs (n, t), n at most most, with which a standing can come that meets a goal (and is calm)."""
    check_goal(protocol, goal)
    _check_many(most)
    census = Census(protocol, goal, calm)
    return [(n, t) for n in range(1, most + 1) for t in census.bounds(n)]


def run_at(protocol, goal, n, t, *, calm=False):
    """Returns a run with just this n and t whose standing meets a goal (and is calm), or None if there is none."""
    check_goal(protocol, goal)
    _check_many(n)
    _check_many(t)
    census = Census(protocol, goal, calm)
    crowd = census.crowd(census.of(n), n, t)
    return None if crowd is None else run_of(protocol, crowd)


class Census:
    """Asks for standings of told numbers of members that meet a goal (and are calm)."""

    def __init__(self, protocol, goal, calm):
        self._sheet = Sheet(protocol)
        self._sums = self._sheet.comparison_sums(goal)
        self._calm = calm
        self._question = question_of(self._sheet, self._sums, calm)

    def bounds(self, n):
        """Returns the list of all t with which such a standing can come to n members."""
        question = self.of(n)
        return [t for t in range(n + 1) if self.crowd(question, n, t) is not None]

    def of(self, n):
        """Returns the question for n members."""
        return self._also(self._question, members(), n)

    def crowd(self, question, n, t):
        """Returns a crowd that comes to such a standing with this t, by the question for n, or None if none does."""
        question = self._also(question, bound(), t)
        crowd = question.crowd()
        if crowd is None:
            return None
        return _of_members(crowd, n) or self._counted(question, n, t)

    def _counted(self, question, n, t):
        """Returns what crowd() does, where members would have to be parted by the first crowd that comes so."""
        for f in range(min(t, n - 1) + 1):
            crowd = self._also(question, faulty(), f).crowd()
            if crowd is not None:
                found = _of_members(crowd, n) or counted_crowd(self._sheet, self._sums, self._calm, (n, t, f))
                if found is not None:
                    return found
        return None

    def _also(self, question, form, many):
        """Returns the question for standings in which a form is just so much, too."""
        least = self._sheet.form_sum(form)
        least[CONSTANT] = -many
        most = [-number for number in least]
        most[SCALE] = 1
        return question.also([least, most])


def _of_members(crowd, n):
    """Returns the crowd of n members that are to one another as those of a crowd, or None if they would be parted."""
    crowd = crowd.least()
    own, _, _ = crowd.n_t_f()
    # with a crowd each multiple of it is one, too
    return crowd.multiplied(n // own) if n % own == 0 else None


def _check_many(thing):
    if not is_integer(thing) or not 0 <= thing <= MOST:
        raise BadMany(thing)
