"""Shares: what a form can be by the number of members."""

from manyvoices.errors import BadForm
from manyvoices.forms import Form, bound, members
from manyvoices.goals import CALM, check_goal, check_wishes
from manyvoices.intervals import joined, lowest_terms
from manyvoices.questions import question_of
from manyvoices.sheets import Sheet
from manyvoices.tables import CONSTANT, SCALE

# the watched sums of a table: the number of members, the form, and the unit that was
MEMBERS = 0
FORM = 1
UNIT = 2


def shares(protocol, goal, form, *, calm=False):
    """Returns the intervals of the shares that a form has in the standings that meet a goal (and are calm)."""
    check_goal(protocol, goal)
    if not _can_be_shared(protocol, form):
        raise BadForm(form)
    sheet = Sheet(protocol)
    return shares_in(sheet, sheet.form_sum(form), [(sheet.comparison_sums(goal), calm)])


def borne(protocol, wishes):
    """Returns the intervals of the shares of t at which, without the promises, some wish is broken."""
    check_wishes(protocol, wishes)
    sheet = Sheet(protocol, promise=())
    return shares_in(sheet, sheet.form_sum(bound()), broken_by(sheet, wishes))


def broken_by(sheet, wishes):
    """Returns for each wish the pair of the sums of what breaks it, and of whether only calm standings do."""
    return [(sheet.comparison_sums(goal), word == CALM) for word, goal in wishes]


def shares_in(sheet, shared, asked):
    """Returns the intervals of the shares of a form, told by its sum, where one of some pairs (sums, calm) is met."""
    watched = [sheet.form_sum(members()), shared]
    found = []
    # each gap is told by the sums that a share is above its low end, if any, and below its high end
    gaps = [([], [])]
    for sums, calm in asked:
        question = question_of(sheet, sums, calm)
        left = gaps
        gaps = []
        # each turn finds all shares of those that go by one order, and calm by one choice of conditions, in a gap:
        # as what it leaves holds none of these any more, the turns come to an end
        while left:
            above, below = left.pop()
            within = question.also([*above, *below])
            crowd = within.crowd()
            if crowd is None:
                gaps.append((above, below))
            else:
                low, is_low, high, is_high = _interval(within.case(crowd), watched)
                found.append((low, is_low, high, is_high))
                left.append((above, [_beyond(watched, low, is_low, -1)]))
                left.append(([_beyond(watched, high, is_high, 1)], below))
    return joined(found)


def _can_be_shared(protocol, thing):
    """Tells of any object whether it is a form whose shares can be told."""
    if not isinstance(thing, Form) or thing.rest != 0 or not thing.terms():
        return False
    return all([_is_counted(protocol, term) for term, _ in thing.terms()])


def _is_counted(protocol, term):
    if term[0] in ("at", "begun"):
        return term[1] in protocol.places()
    if term[0] == "said":
        return term[1] in protocol.sorts()
    return term[0] != "heard"


def _beyond(watched, end, is_end, sign):
    """Returns the sum that a share is above an end (sign 1) or below it (sign -1), or there, if it is none."""
    over, under = end
    total = [sign * (under * form - over * many) for many, form in zip(watched[MEMBERS], watched[FORM])]
    total[SCALE] = 1
    total[CONSTANT] = -1 if is_end else 0
    return total


def _interval(table, watched):
    """Returns the interval of the shares that a settled table leaves."""
    table.watch(watched)
    # by the members, the unit is 0 where the shares are only come near, with ever more members
    table.measure_by(MEMBERS)
    high, is_high = _farthest(table, 1)
    low, is_low = _farthest(table, -1)
    return low, is_low, high, is_high


def _farthest(table, sign):
    """Returns the greatest (sign 1) or the least (sign -1) share, and whether it is one that can be had."""
    table.drive(FORM, sign, table.columns)
    above, below = table.amount(FORM)
    if table.amount(UNIT)[0] == 0:
        # only what leaves the share as it is may rise behind this
        table.drive(UNIT, 1, table.unmoving(FORM))
    return lowest_terms(above, below), table.amount(UNIT)[0] > 0
