"""What can come, whatever the numbers: runs to a goal, papers that there are none, and who can stand together."""

from manyvoices.goals import check_goal
from manyvoices.papers import barring_triples, is_barring, longer_orders
from manyvoices.questions import Question
from manyvoices.sheets import Sheet
from manyvoices.steps import run_of


def reach(protocol, goal, *, calm=False):
    """Returns a run whose standing meets a goal (and is calm), or None if there is none."""
    check_goal(protocol, goal)
    sheet = Sheet(protocol)
    crowd = Question(sheet, sheet.comparison_sums(goal), calm).crowd()
    return None if crowd is None else run_of(protocol, crowd)


def paper(protocol, goal, *, calm=False):
    """Returns a paper for a goal, or None if there is none."""
    check_goal(protocol, goal)
    sheet = Sheet(protocol)
    goal_sums = sheet.comparison_sums(goal)
    told = []
    level = [()]
    while level:
        behind = []
        for order in level:
            triples = barring_triples(sheet, order, goal_sums, calm)
            if triples is None:
                return None
            told.extend(triples)
            _, few, _ = triples[0]
            behind.extend([] if few is None else longer_orders(sheet, order))
        level = behind
    return told


def is_paper(protocol, goal, thing, *, calm=False):
    """Tells of any object whether it is a paper for a goal."""
    check_goal(protocol, goal)
    sheet = Sheet(protocol)
    return is_barring(sheet, sheet.comparison_sums(goal), thing, calm)


def together(protocol, *, calm=False):
    """Returns the greatest sets of places at which members can stand at once, each as a list of places."""
    return sets_together(protocol, Sheet(protocol), calm)


def sets_together(protocol, sheet, calm):
    """Returns what together tells, by the sheet of the protocol."""
    gathering = Gathering(protocol, sheet, calm)
    found = gathering.at_all_places()
    if found is None:
        found = gathering.greatest_rows()
    places = protocol.places()
    return [list(row) for row in sorted(found, key=lambda row: [places.index(place) for place in row])]


def is_part(places, greater):
    """Tells whether all of some places are among others."""
    return all([place in greater for place in places])


class Gathering:
    """Asks who can stand at once, with rows of places in the order of the protocol."""

    def __init__(self, protocol, sheet, calm):
        # nobody rests where a rule asks for nothing
        left = [place for place, numbers in sheet.starts if calm and not numbers]
        ends = [way.end for way in sheet.ways]
        self._places = [place for place in protocol.places() if place in ends and place not in left]
        self._sheet = sheet
        self._question = Question(sheet, [], calm)

    def at_all_places(self):
        """Returns the list of the row of all places at which members can stand, or None if not at once.

        It is empty if members can stand nowhere.
        """
        if self._row_with(self._places) is None:
            reached = []
            for place in self._places:
                row = None if place in reached else self._row_with([place])
                reached.extend(row or [])
            self._places = [place for place in self._places if place in reached]
        if not self._places:
            return []
        row = self._row_with(self._places)
        return None if row is None else [row]

    def greatest_rows(self):
        """Returns the list of the greatest rows of places at which members can stand at once."""
        found = []
        barred = []
        # rows that some greatest row may hold, and all that have been among them
        left = [()]
        seen = {(): True}
        while left:
            asked = left.pop()
            holding = [row for row in found if is_part(asked, row)]
            if not holding and not any([is_part(row, asked) for row in barred]):
                row = self._row_with(asked)
                if row is None:
                    barred.append(asked)
                else:
                    holding = [self._greatest_from(row)]
                    found.extend(holding)
            # another greatest row holds some place that this one lacks
            for longer in self._longer(asked, holding[0]) if holding else []:
                if longer not in seen:
                    seen[longer] = True
                    left.append(longer)
        return found

    def _greatest_from(self, row):
        """Returns a greatest row that holds a row of places at which members can stand at once."""
        for place in self._places:
            if place not in row:
                row = self._row_with([*row, place]) or row
        return row

    def _longer(self, asked, row):
        """Returns the rows of those that are asked for and one place more that a row lacks."""
        return [self._in_order([*asked, place]) for place in self._places if place not in row]

    def _row_with(self, asked):
        """Returns a row of the places at which members stand while they stand at some places, or None."""
        crowd = self._question.crowd([self._sheet.standing_sum(place) for place in asked])
        return None if crowd is None else self._in_order(crowd.places())

    def _in_order(self, places):
        return tuple([place for place in self._places if place in places])
