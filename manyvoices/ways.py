"""Ways: where a member begins, by which rules it goes, and how it ends."""

STAYS = "stays"
STOPS = "stops"
CUT = "cut"


class Way:
    """A member begins at a place, goes by a row of rules, and stays there, stops there, or is cut in the last rule."""

    def __init__(self, begin, row, ending):
        self.begin = begin
        self.row = tuple(row)
        self.ending = ending
        self.end = self.last_place() if ending == STAYS else None
        self.counted = self._counted()

    def last_place(self):
        """Returns the place to which the rules lead."""
        return self.row[-1].end if self.row else self.begin

    def _counted(self):
        """Returns the list of the terms for which a member that goes this way counts, once each."""
        in_full = self.row[:-1] if self.ending == CUT else self.row
        voices = [("said", sort) for rule in in_full for sort in rule.says]
        places = [] if self.end is None else [("at", self.end)]
        return [("begun", self.begin), *places, *voices]


def ways_of(protocol):
    """Returns the list of all ways of members in a protocol."""
    rules = protocol.rules()
    stay = []
    level = [Way(place, [], STAYS) for place in protocol.begins()]
    while level:
        stay.extend(level)
        level = [Way(way.begin, [*way.row, rule], STAYS) for way in level for rule in rules if rule.start == way.end]
    if protocol.faults != "stopping":
        return stay
    stop = [Way(way.begin, way.row, STOPS) for way in stay]
    cut = [Way(way.begin, way.row, CUT) for way in stay if way.row]
    return [*stay, *stop, *cut]


def rules_in_turn(protocol):
    """Returns the rules such that those that lead to a place stand ahead of those that start there."""
    left = protocol.rules()
    turn = []
    while left:
        ends = [rule.end for rule in left]
        turn.extend([rule for rule in left if rule.start not in ends])
        left = [rule for rule in left if rule.start in ends]
    return turn
