"""Wishes: which of them hold, and which would hold if a protocol were another one."""

from manyvoices.changes import RULE, all_left_out
from manyvoices.errors import BadBox, BadIndex, UnlikePlaces
from manyvoices.goals import CALM, check_wishes
from manyvoices.kinds import is_integer, is_row
from manyvoices.questions import question_of
from manyvoices.reaching import is_part, sets_together
from manyvoices.sheets import Sheet
from manyvoices.thresholds import threshold_of

GREATEST = 9
MOST_PAIRS = 4


def broken(protocol, wishes):
    """Returns the ascending list of the indexes of the wishes that do not hold."""
    check_wishes(protocol, wishes)
    return _broken_ones(_questions(Sheet(protocol), wishes))


def spare(protocol, wishes):
    """Returns the list of all that can be left out, each by itself, without a further wish being broken."""
    ahead = broken(protocol, wishes)
    held = [wish for index, wish in enumerate(wishes) if index not in ahead]
    # with fewer rules no more standings come, though more of them may be calm
    held_calm = [wish for wish in held if wish[0] == CALM]
    found = []
    for left_out, rules, promise in all_left_out(protocol):
        asked = held_calm if left_out[0] == RULE else held
        if not asked or _all_hold(_questions(Sheet(protocol, rules=rules, promise=promise), asked)):
            found.append(left_out)
    return found


def thresholds(protocol, name, index, box, wishes):
    """Returns the dict from triples (a, b, d) to the wishes that are broken if a condition asks for them."""
    rule = protocol.rule(name)
    check_index(rule, index)
    if not _is_box(box):
        raise BadBox(box)
    check_wishes(protocol, wishes)
    sheet = Sheet(protocol, apart=(name, index))
    questions = _questions(sheet, wishes)
    told = {}
    for a in range(box[0], box[1] + 1):
        for b in range(box[2], box[3] + 1):
            for d in (0, 1):
                sheet.exchange((a, b, d))
                told[(a, b, d)] = _broken_ones(questions)
    return told


def by_faults(protocol, wishes):
    """Returns the dict from the words of faults to the wishes that are broken under them."""
    check_wishes(protocol, wishes)
    sheet = Sheet(protocol, faults="lying")
    questions = _questions(sheet, wishes)
    lying = _broken_ones(questions)
    sheet.hush()
    # who is silent might as well lie, so what holds under lying holds under silent
    silent = [index for index in lying if questions[index].crowd() is not None]
    stopping = _broken_ones(_questions(Sheet(protocol, faults="stopping"), wishes))
    return {"lying": lying, "silent": silent, "stopping": stopping}


def parting(one, other):
    """Returns the first places that members can stand at together in one of two protocols alone, or None."""
    if one.places() != other.places():
        raise UnlikePlaces()
    if one == other:
        return None
    pairs = ((one, Sheet(one)), (other, Sheet(other)))
    for calm in (False, True):
        ones, others = [sets_together(protocol, sheet, calm) for protocol, sheet in pairs]
        for is_first, own, foreign in ((True, ones, others), (False, others, ones)):
            for places in own:
                if not any([is_part(places, greater) for greater in foreign]):
                    return calm, is_first, places
    return None


def mending_thresholds(protocol, wishes):
    """Returns the triples (name, index, (a, b, d)) of changes by one of one threshold after which all wishes hold."""
    found = []
    for rule in protocol.rules():
        for index, condition in enumerate(rule.when):
            sheet = Sheet(protocol, apart=(rule.name, index))
            questions = _questions(sheet, wishes)
            asked = threshold_of(condition)
            a, b, d = asked.a, asked.b, asked.d
            for changed in [(a, b - 1, 0), (a, b - 1, 1), (a, b, 1 - d), (a, b + 1, 0), (a, b + 1, 1)]:
                sheet.exchange(changed)
                if _all_hold(questions):
                    found.append((rule.name, index, changed))
    return found


def check_index(rule, thing):
    """Raises BadIndex for any object that is no index of a condition of a rule."""
    if not is_integer(thing) or not 0 <= thing < len(rule.when):
        raise BadIndex(thing)


def _questions(sheet, wishes):
    """Returns the questions of what breaks wishes, one for each."""
    return [question_of(sheet, sheet.comparison_sums(goal), word == CALM) for word, goal in wishes]


def _broken_ones(questions):
    """Returns the indexes of the questions that some standing answers."""
    return [index for index, question in enumerate(questions) if question.crowd() is not None]


def _all_hold(questions):
    """Tells whether no standing answers any of the questions."""
    for question in questions:
        if question.crowd() is not None:
            return False
    return True


def _is_box(thing):
    """Tells of any object whether it is a list of four bounds, of a and of b, with few enough pairs between."""
    if not is_row(thing, 4):
        return False
    if not all([is_integer(number) and -GREATEST <= number <= GREATEST for number in thing]):
        return False
    least_a, most_a, least_b, most_b = thing
    if least_a > most_a or least_b > most_b:
        return False
    return (most_a - least_a + 1) * (most_b - least_b + 1) <= MOST_PAIRS
