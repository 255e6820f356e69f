"""Runs of a protocol, step by step, and the standings to which they lead."""

from manyvoices.errors import BadRun
from manyvoices.forms import holds
from manyvoices.goals import check_goal
from manyvoices.standings import replayed


def is_run(protocol, thing):
    """Tells of any object whether it is a run of a protocol."""
    return replayed(protocol, thing) is not None


def standing(protocol, run):
    """Returns the dict of where members stand behind a run, and of what has been said."""
    now = _behind(protocol, run)
    return {
        "at": now.here,
        "begun": now.first,
        "said": now.full,
        "cut": now.partial,
        "stopped": now.gone,
    }


def meets(protocol, run, goal):
    """Tells whether the standing behind a run meets a goal."""
    now = _behind(protocol, run)
    check_goal(protocol, goal)
    counts = now.counts()
    return all([holds(comparison, counts) for comparison in goal])


def is_calm(protocol, run):
    """Tells whether the standing behind a run is calm."""
    return _behind(protocol, run).comes_to_rest()


def _behind(protocol, run):
    now = replayed(protocol, run)
    if now is None:
        raise BadRun(run)
    return now
