"""Ways: where a member begins, by which rules it goes, and how it ends."""

STAYS = "stays"
STOPS = "stops"
CUT = "cut"


class Way:
    """A member begins at a place, goes by a row of rules, and stays there, stops there, or is cut in the last rule.

    For each rule of the row, marks holds the conditions that this one and
    those ahead of it need; each number of a condition is a bit. voices holds
    the pairs (sort, mark of the rule that says it), in full or not. last is
    the place to which the rules lead, end the one where it stays, if it does.
    """

    def __init__(self, begin, row, ending, marks, voices):
        self.begin = begin
        self.row = row
        self.ending = ending
        self.marks = marks
        self.mark = marks[-1] if marks else 0
        self.voices = voices
        self.last = row[-1].end if row else begin
        self.end = self.last if ending == STAYS else None

    def longer(self, rule, needs):
        """Returns the way that goes on by one rule more."""
        mark = self.mark | needs
        voices = self.voices
        for sort in rule.says:
            voices = (*voices, (sort, mark))
        return Way(self.begin, (*self.row, rule), self.ending, (*self.marks, mark), voices)

    def ended(self, ending):
        """Returns the way by the same rules with another ending."""
        return Way(self.begin, self.row, ending, self.marks, self.voices)

    def says_in_full(self, sort):
        """Tells whether a sort is said in full."""
        row = self.row[:-1] if self.ending == CUT else self.row
        return any([sort in rule.says for rule in row])

    def mark_of(self, sort):
        """Returns the mark of the rule that says a sort, or None if none does."""
        for own, mark in self.voices:
            if own == sort:
                return mark
        return None


def ways_of(begins, rules, needs, stopping):
    """Returns the list of all ways by some rules; needs holds what each of these needs, as bits.

    Who stops behind a rule that says nothing, or within it, might as well
    have stopped ahead of it, so these are left out.
    """
    pairs = list(zip(rules, needs))
    stay = []
    level = [Way(place, (), STAYS, (), ()) for place in begins]
    while level:
        stay.extend(level)
        level = [way.longer(rule, bits) for way in level for rule, bits in pairs if rule.start == way.last]
    if not stopping:
        return stay
    saying = [way for way in stay if way.row and way.row[-1].says]
    silent = [way for way in stay if not way.row]
    return [*stay, *[way.ended(STOPS) for way in [*silent, *saying]], *[way.ended(CUT) for way in saying]]


def rules_in_turn(protocol):
    """Returns the rules such that those that lead to a place stand ahead of those that start there."""
    left = protocol.rules()
    turn = []
    while left:
        ends = [rule.end for rule in left]
        turn.extend([rule for rule in left if rule.start not in ends])
        left = [rule for rule in left if rule.start in ends]
    return turn
