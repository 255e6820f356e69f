"""Tells whether comparisons may stand in a goal, and goals in a wish."""

from manyvoices.errors import BadGoal, BadWish
from manyvoices.forms import Comparison
from manyvoices.kinds import is_list, is_row

NEVER = "never"
CALM = "calm"


def first_no_goal(protocol, goal):
    """Returns the index of the first thing in a goal that may not stand there, 0 if it is no list, or None."""
    if not is_list(goal):
        return 0
    places = protocol.places()
    for index, thing in enumerate(goal):
        if not _may_stand(places, thing):
            return index
    return None


def check_goal(protocol, goal):
    """Raises BadGoal if a goal is none for a protocol."""
    index = first_no_goal(protocol, goal)
    if index is not None:
        raise BadGoal(index)


def is_wish(protocol, thing):
    """Tells of any object whether it is a wish for a protocol."""
    if not is_row(thing, 2):
        return False
    word, goal = thing
    return word in (NEVER, CALM) and first_no_goal(protocol, goal) is None


def check_wishes(protocol, wishes):
    """Raises BadWish if some thing in a list of wishes is none for a protocol, or if it is no list."""
    if not is_list(wishes):
        raise BadWish(0)
    for index, wish in enumerate(wishes):
        if not is_wish(protocol, wish):
            raise BadWish(index)


def _may_stand(places, thing):
    return isinstance(thing, Comparison) and all([_may_be_told(places, term) for term, _ in thing.terms()])


def _may_be_told(places, term):
    if term[0] in ("at", "begun"):
        return term[1] in places
    return term[0] != "heard"
