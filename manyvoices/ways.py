"""Ways: where a member begins, by which rules it goes, and how it ends."""

STAYS = "stays"
STOPS = "stops"
CUT = "cut"


class Way:
    """A member begins at a place, goes by a row of rules, and stays there, stops there, or is cut in the last rule.

    For each rule of the row, marks holds the conditions that this one and
    those ahead of it need; each number of a condition is a bit. voices holds
    the pairs (sort, mark of the rule that says it), in full or not.
    """

    def __init__(self, begin, row, ending, marks, voices):
        self.begin = begin
        self.row = row
        self.ending = ending
        self.marks = marks
        self.mark = marks[-1] if marks else 0
        self.voices = voices
        self.end = self.last_place() if ending == STAYS else None

    def last_place(self):
        """Returns the place to which the rules lead."""
        return self.row[-1].end if self.row else self.begin

    def longer(self, rule, needs):
        """Returns the way that goes on by one rule more."""
        mark = self.mark | needs
        voices = (*self.voices, *[(sort, mark) for sort in rule.says])
        return Way(self.begin, (*self.row, rule), self.ending, (*self.marks, mark), voices)

    def ended(self, ending):
        """Returns the way by the same rules with another ending."""
        return Way(self.begin, self.row, ending, self.marks, self.voices)

    def in_full(self):
        """Returns the list of the sorts that are said in full."""
        row = self.row[:-1] if self.ending == CUT else self.row
        return [sort for rule in row for sort in rule.says]


def ways_of(protocol, needs):
    """Returns the list of all ways of members in a protocol; needs holds what each of its rules needs, as bits.

    Who stops behind a rule that says nothing, or within it, might as well
    have stopped ahead of it, so these are left out.
    """
    pairs = list(zip(protocol.rules(), needs))
    stay = []
    level = [Way(place, (), STAYS, (), ()) for place in protocol.begins()]
    while level:
        stay.extend(level)
        level = [way.longer(rule, bits) for way in level for rule, bits in pairs if rule.start == way.end]
    if protocol.faults != "stopping":
        return stay
    saying = [way for way in stay if way.row and way.row[-1].says]
    silent = [way for way in stay if not way.row]
    return [*stay, *[way.ended(STOPS) for way in [*silent, *saying]], *[way.ended(CUT) for way in saying]]


def rules_in_turn(protocol):
    """Returns the rules such that those that lead to a place stand ahead of those that start there."""
    left = protocol.rules()
    turn = []
    while left:
        ends = [rule.end for rule in left]
        turn.extend([rule for rule in left if rule.start not in ends])
        left = [rule for rule in left if rule.start in ends]
    return turn
