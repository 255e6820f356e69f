"""Wishes: which of them hold, and which would hold if a protocol were another one."""

from manyvoices.cases import Cases
from manyvoices.changes import all_left_out, with_threshold
from manyvoices.errors import BadBox, BadIndex, UnlikePlaces
from manyvoices.goals import CALM, check_wishes
from manyvoices.kinds import is_integer, is_row
from manyvoices.protocols import FAULTS
from manyvoices.reaching import together
from manyvoices.sheets import Threshold

GREATEST = 9
MOST_PAIRS = 4


def broken(protocol, wishes):
    """Returns the ascending list of the indexes of the wishes that do not hold."""
    check_wishes(protocol, wishes)
    cases = Cases(protocol)
    return [index for index, (word, goal) in enumerate(wishes) if cases.reached(goal, word == CALM) is not None]


def spare(protocol, wishes):
    """Returns the list of all that can be left out, each by itself, without a further wish being broken."""
    ahead = broken(protocol, wishes)
    found = []
    for left_out, other in all_left_out(protocol):
        if all([index in ahead for index in broken(other, wishes)]):
            found.append(left_out)
    return found


def thresholds(protocol, name, index, box, wishes):
    """Returns the dict from triples (a, b, d) to the wishes that are broken if a condition asks for them."""
    rule = protocol.rule(name)
    check_index(rule, index)
    if not _is_box(box):
        raise BadBox(box)
    check_wishes(protocol, wishes)
    told = {}
    for a in range(box[0], box[1] + 1):
        for b in range(box[2], box[3] + 1):
            for d in (0, 1):
                told[(a, b, d)] = broken(with_threshold(protocol, rule, index, (a, b, d)), wishes)
    return told


def by_faults(protocol, wishes):
    """Returns the dict from the words of faults to the wishes that are broken under them."""
    return {word: broken(protocol.but(faults=word), wishes) for word in FAULTS}


def parting(one, other):
    """Returns the first places that members can stand at together in one of two protocols alone, or None."""
    if one.places() != other.places():
        raise UnlikePlaces()
    for calm in (False, True):
        ones = together(one, calm=calm)
        others = together(other, calm=calm)
        for is_first, own, foreign in ((True, ones, others), (False, others, ones)):
            for places in own:
                if not any([_is_part(places, greater) for greater in foreign]):
                    return calm, is_first, places
    return None


def mending_thresholds(protocol, wishes):
    """Returns the triples (name, index, (a, b, d)) of changes by one of one threshold after which all wishes hold."""
    found = []
    for rule in protocol.rules():
        for index, condition in enumerate(rule.when):
            threshold = Threshold(condition)
            a, b, d = threshold.a, threshold.b, threshold.d
            for changed in [(a, b - 1, 0), (a, b - 1, 1), (a, b, 1 - d), (a, b + 1, 0), (a, b + 1, 1)]:
                if not broken(with_threshold(protocol, rule, index, changed), wishes):
                    found.append((rule.name, index, changed))
    return found


def check_index(rule, thing):
    """Raises BadIndex for any object that is no index of a condition of a rule."""
    if not is_integer(thing) or not 0 <= thing < len(rule.when):
        raise BadIndex(thing)


def _is_part(places, greater):
    return all([place in greater for place in places])


def _is_box(thing):
    """Tells of any object whether it is a list of four bounds, of a and of b, with few enough pairs between."""
    if not is_row(thing, 4):
        return False
    if not all([is_integer(number) and -GREATEST <= number <= GREATEST for number in thing]):
        return False
    least_a, most_a, least_b, most_b = thing
    if least_a > most_a or least_b > most_b:
        return False
    return (most_a - least_a + 1) * (most_b - least_b + 1) <= MOST_PAIRS
