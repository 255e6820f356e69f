"""Wishes: which of them hold, and which would hold if a protocol were another one."""

from manyvoices.cases import first_case
from manyvoices.changes import all_left_out
from manyvoices.errors import BadBox, BadIndex, UnlikePlaces
from manyvoices.goals import CALM, check_wishes
from manyvoices.kinds import is_integer, is_row
from manyvoices.protocols import FAULTS
from manyvoices.reaching import is_part, sets_together
from manyvoices.sheets import Sheet
from manyvoices.thresholds import threshold_of

GREATEST = 9
MOST_PAIRS = 4


def broken(protocol, wishes):
    """Returns the ascending list of the indexes of the wishes that do not hold."""
    check_wishes(protocol, wishes)
    return _broken_in(Sheet(protocol), wishes)


def spare(protocol, wishes):
    """Returns the list of all that can be left out, each by itself, without a further wish being broken."""
    ahead = broken(protocol, wishes)
    held = [wish for index, wish in enumerate(wishes) if index not in ahead]
    return [left_out for left_out, other in all_left_out(protocol) if _all_hold(Sheet(other), held)]


def thresholds(protocol, name, index, box, wishes):
    """Returns the dict from triples (a, b, d) to the wishes that are broken if a condition asks for them."""
    rule = protocol.rule(name)
    check_index(rule, index)
    if not _is_box(box):
        raise BadBox(box)
    check_wishes(protocol, wishes)
    sheet = Sheet(protocol, (name, index))
    told = {}
    for a in range(box[0], box[1] + 1):
        for b in range(box[2], box[3] + 1):
            for d in (0, 1):
                sheet.exchange((a, b, d))
                told[(a, b, d)] = _broken_in(sheet, wishes)
    return told


def by_faults(protocol, wishes):
    """Returns the dict from the words of faults to the wishes that are broken under them."""
    return {word: broken(protocol.but(faults=word), wishes) for word in FAULTS}


def parting(one, other):
    """Returns the first places that members can stand at together in one of two protocols alone, or None."""
    if one.places() != other.places():
        raise UnlikePlaces()
    sheets = (Sheet(one), Sheet(other))
    for calm in (False, True):
        ones, others = [sets_together(sheet, calm) for sheet in sheets]
        for is_first, own, foreign in ((True, ones, others), (False, others, ones)):
            for places in own:
                if not any([is_part(places, greater) for greater in foreign]):
                    return calm, is_first, places
    return None


def mending_thresholds(protocol, wishes):
    """Returns the triples (name, index, (a, b, d)) of changes by one of one threshold after which all wishes hold."""
    found = []
    for rule in protocol.rules():
        for index, condition in enumerate(rule.when):
            sheet = Sheet(protocol, (rule.name, index))
            asked = threshold_of(condition)
            a, b, d = asked.a, asked.b, asked.d
            for changed in [(a, b - 1, 0), (a, b - 1, 1), (a, b, 1 - d), (a, b + 1, 0), (a, b + 1, 1)]:
                sheet.exchange(changed)
                if _all_hold(sheet, wishes):
                    found.append((rule.name, index, changed))
    return found


def check_index(rule, thing):
    """Raises BadIndex for any object that is no index of a condition of a rule."""
    if not is_integer(thing) or not 0 <= thing < len(rule.when):
        raise BadIndex(thing)


def _holds(sheet, wish):
    word, goal = wish
    return first_case(sheet, sheet.comparison_sums(goal), word == CALM) is None


def _broken_in(sheet, wishes):
    return [index for index, wish in enumerate(wishes) if not _holds(sheet, wish)]


def _all_hold(sheet, wishes):
    for wish in wishes:
        if not _holds(sheet, wish):
            return False
    return True


def _is_box(thing):
    """Tells of any object whether it is a list of four bounds, of a and of b, with few enough pairs between."""
    if not is_row(thing, 4):
        return False
    if not all([is_integer(number) and -GREATEST <= number <= GREATEST for number in thing]):
        return False
    least_a, most_a, least_b, most_b = thing
    if least_a > most_a or least_b > most_b:
        return False
    return (most_a - least_a + 1) * (most_b - least_b + 1) <= MOST_PAIRS
