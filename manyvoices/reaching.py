"""What can come, whatever the numbers: runs to a goal, papers that there are none, and who can stand together."""

from manyvoices.goals import check_goal
from manyvoices.papers import barring_triples, is_barring, longer_orders
from manyvoices.questions import question_of
from manyvoices.sheets import Sheet
from manyvoices.steps import run_of


def reach(protocol, goal, *, calm=False):
    """Returns a run whose standing meets a goal (and is calm), or None if there is none."""
    check_goal(protocol, goal)
    sheet = Sheet(protocol)
    crowd = question_of(sheet, sheet.comparison_sums(goal), calm).crowd()
    return None if crowd is None else run_of(protocol, crowd.least())


def paper(protocol, goal, *, calm=False):
    """Returns a paper for a goal, or None if there is none."""
    check_goal(protocol, goal)
    sheet = Sheet(protocol)
    goal_sums = sheet.comparison_sums(goal)
    told = []
    level = [()]
    while level:
        behind = []
        for order in level:
            triples = barring_triples(sheet, order, goal_sums, calm)
            if triples is None:
                return None
            told.extend(triples)
            _, few, _ = triples[0]
            behind.extend([] if few is None else longer_orders(sheet, order))
        level = behind
    return told


def is_paper(protocol, goal, thing, *, calm=False):
    """Tells of any object whether it is a paper for a goal."""
    check_goal(protocol, goal)
    sheet = Sheet(protocol)
    return is_barring(sheet, sheet.comparison_sums(goal), thing, calm)


def together(protocol, *, calm=False):
    """Returns the greatest sets of places at which members can stand at once, each as a list of places."""
    return sets_together(protocol, Sheet(protocol), calm)


def sets_together(protocol, sheet, calm):
    """Returns what together tells, by the sheet of the protocol."""
    places = protocol.places()
    rows = sorted([numbers_of(row) for row in Gathering(places, sheet, calm).greatest_rows()])
    return [[places[number] for number in row] for row in rows]


class Gathering:
    """Asks who can stand at once, with rows of places told as bits, by the numbers of the places."""

    def __init__(self, places, sheet, calm):
        # nobody rests where a rule asks for nothing
        left = [place for place, numbers in sheet.starts if calm and not numbers]
        ends = [way.end for way in sheet.ways]
        self._bits = {place: 1 << number for number, place in enumerate(places)}
        self._standing = {
            self._bits[place]: sheet.standing_sum(place) for place in places if place in ends and place not in left
        }
        self._question = question_of(sheet, [], calm)
        # rows at which members can stand at once, and rows at which they cannot
        self._held = []
        self._barred = []

    def greatest_rows(self):
        """Returns the list of the greatest rows of places at which members can stand at once."""
        reached = list(self._standing)
        if self._row_with(sum(reached)) is None:
            reached = [bit for bit in reached if self._row_with(bit) is not None]
        found = []
        # rows that some greatest row may hold, and all that have been among them
        left = [0] if reached else []
        seen = {0: True}
        while left:
            asked = left.pop()
            row = self._greatest_with(asked, reached)
            if row is not None:
                found.extend([] if row in found else [row])
                # another greatest row holds some place that this one lacks
                for bit in reached:
                    if not row & bit and asked | bit not in seen:
                        seen[asked | bit] = True
                        left.append(asked | bit)
        return found

    def _greatest_with(self, asked, reached):
        """Returns a greatest row that holds what is asked for, or None if members cannot stand there at once."""
        row = self._row_with(sum(reached)) or self._row_with(asked)
        for bit in reached:
            if row is not None and not row & bit:
                row = self._row_with(row | bit) or row
        return row

    def _row_with(self, asked):
        """Returns a row at which members stand while they stand at one that is asked for, or None."""
        for row in self._held:
            if row & asked == asked:
                return row
        for row in self._barred:
            if row & asked == row:
                return None
        standing = [total for bit, total in self._standing.items() if asked & bit]
        crowd = self._question.also(standing).crowd()
        if crowd is None:
            self._barred.append(asked)
            return None
        row = 0
        for place in crowd.places():
            row = row | self._bits[place]
        self._held.append(row)
        return row


def is_part(places, greater):
    """Tells whether all of some places are among others."""
    return all([place in greater for place in places])


def numbers_of(bits):
    """Returns the ascending list of the numbers whose bits are set."""
    return [number for number in range(bits.bit_length()) if bits >> number & 1]
