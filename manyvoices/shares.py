"""Shares: what a form can be by the number of members."""

from manyvoices.cases import Cases, unknowns_of, unlike_ways
from manyvoices.errors import BadForm
from manyvoices.forms import Form, bound, members
from manyvoices.goals import CALM, check_goal, check_wishes
from manyvoices.intervals import joined, lowest_terms
from manyvoices.tables import Table

# the watched sums of a table: the number of members, the form, what it lacks to 0, and the unit that was
MEMBERS = 0
FORM = 1
LACK = 2
UNIT = 3


def shares(protocol, goal, form, *, calm=False):
    """Returns the intervals of the shares that a form has in the standings that meet a goal (and are calm)."""
    check_goal(protocol, goal)
    if not _can_be_shared(protocol, form):
        raise BadForm(form)
    return joined(_intervals(Cases(protocol), goal, form, calm))


def borne(protocol, wishes):
    """Returns the intervals of the shares of t at which, without the promises, some wish is broken."""
    check_wishes(protocol, wishes)
    cases = Cases(protocol.but(promise=()))
    found = []
    for word, goal in wishes:
        found.extend(_intervals(cases, goal, bound(), word == CALM))
    return joined(found)


def _can_be_shared(protocol, thing):
    """Tells of any object whether it is a form whose shares can be told."""
    if not isinstance(thing, Form) or thing.rest != 0 or not thing.terms():
        return False
    return all([_is_counted(protocol, term) for term, _ in thing.terms()])


def _is_counted(protocol, term):
    if term[0] in ("at", "begun"):
        return term[1] in protocol.places()
    if term[0] == "said":
        return term[1] in protocol.sorts()
    return term[0] != "heard"


def _intervals(cases, goal, form, calm):
    """Returns the intervals of the shares of a form, one for each case."""
    goal_rows = cases.sheet.comparison_rows(goal)
    watched = [cases.sheet.form_row(other) for other in (members(), form, -form)]
    return [_interval(cases.sheet, case, goal_rows, watched) for case in cases.met(goal_rows, calm)]


def _interval(sheet, case, goal_rows, watched):
    """Returns the interval of the shares in a case in which the goal can be met."""
    rows = sheet.rows_of(case, goal_rows)
    ways = unlike_ways(sheet, case, [*rows, *watched])
    sums = [unknowns_of(sheet, row, ways) for row in rows]
    table = Table(sums, [unknowns_of(sheet, row, ways) for row in watched])
    table.settle()
    # by the members, the unit is 0 where the shares are only come near, with ever more members
    table.measure_by(MEMBERS)
    high, is_high = _greatest(table, FORM)
    low, is_low = _greatest(table, LACK)
    return (-low[0], low[1]), is_low, high, is_high


def _greatest(table, place):
    """Returns the greatest share of a watched sum, and whether it is one that can be had."""
    table.rise(place)
    above, below = table.amount(place)
    table.rise(UNIT, place)
    return lowest_terms(above, below), table.amount(UNIT)[0] > 0
