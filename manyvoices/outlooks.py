"""Looks at all that can come to few members from a standing on, one member after another."""

from manyvoices.thresholds import threshold_of


class Move:
    """What one member can do from a place: which conditions it needs, what changes, and what is heard of it."""

    def __init__(self, start, needs, changes, hearings):
        self.start = start
        self.needs = tuple(needs)
        self.changes = tuple(changes)
        self.hearings = tuple(hearings)


class Outlook:
    """Standings of a protocol as tuples, with nothing in them that no condition and no comparison asks for.

    Such a tuple holds how many stand at each place; what each condition
    lacks to be met as it may be; for calm standings, what each lacks to be
    met surely; how many voices of each sort that the goal names have been
    said in full; and how many may still stop.
    """

    def __init__(self, now, goal, calm):
        protocol = now.protocol
        self._now = now
        self._calm = calm
        self._places = protocol.places()
        self._conditions = protocol.conditions()
        self._thresholds = [threshold_of(condition) for condition in self._conditions]
        terms = [term for comparison in goal for term, _ in comparison.terms()]
        self._named = [sort for sort in now.full if ("said", sort) in terms]
        self._surely = len(self._places) + len(self._conditions)
        self._said = self._surely + (len(self._conditions) if calm else 0)
        self._left = self._said + len(self._named)
        self.moves = self._all_moves()
        self._musts = [
            (self._places.index(rule.start), self._needs(rule, self._surely)) for rule in protocol.rules() if calm
        ]
        self._goal = [self._made_ready(comparison) for comparison in goal]

    def beginning(self):
        """Returns the tuple of the standing from which it starts."""
        now = self._now
        lies = now.f if now.protocol.faults == "lying" else 0
        voices = {sort: now.full[sort] + now.partial[sort] for sort in now.full}
        may = [self._lack(threshold, voices, lies) for threshold in self._thresholds]
        surely = [self._lack(threshold, now.full, 0) for threshold in self._thresholds if self._calm]
        said = [now.full[sort] for sort in self._named]
        return (*[now.here[place] for place in self._places], *may, *surely, *said, now.f - now.gone)

    def behind(self, state, move):
        """Returns the tuple of the standing behind a move of one member, or None if nobody can do it."""
        if state[move.start] == 0 or any([state[index] > 0 for index in move.needs]):
            return None
        after = list(state)
        for index, many in move.changes:
            after[index] += many
        for index, many in move.hearings:
            # what is met is met, by however much more is heard
            after[index] = max(after[index] - many, 0)
        return tuple(after) if after[self._left] >= 0 else None

    def fits(self, state):
        """Tells whether a standing meets the goal (and is calm)."""
        for least, parts in self._goal:
            if sum([many * state[index] for index, many in parts]) < least:
                return False
        for start, needs in self._musts:
            if state[start] > 0 and not any([state[index] > 0 for index in needs]):
                return False
        return True

    def _lack(self, threshold, voices, lies):
        """Returns by how much what is heard falls short of a threshold, 0 if it does not."""
        heard = sum([voices[sort] for sort in threshold.heard]) + lies
        asked = threshold.a * self._now.n + threshold.b * self._now.t + threshold.d
        return max(asked - threshold.times * heard, 0)

    def _needs(self, rule, first):
        """Returns the indexes of what the conditions of a rule lack; first is that of the first condition."""
        return [first + self._conditions.index(condition) for condition in rule.when]

    def _hearings(self, rule, first):
        """Returns the pairs (index, by how much less is lacked) of the conditions that hear what a rule says."""
        pairs = []
        for number, threshold in enumerate(self._thresholds):
            many = len([sort for sort in rule.says if sort in threshold.heard])
            pairs.append((first + number, threshold.times * many))
        return [pair for pair in pairs if pair[1] > 0]

    def _all_moves(self):
        protocol = self._now.protocol
        moves = []
        for rule in protocol.rules():
            start = self._places.index(rule.start)
            needs = self._needs(rule, len(self._places))
            heard = self._hearings(rule, len(self._places))
            surely = self._hearings(rule, self._surely) if self._calm else []
            said = [(self._said + self._named.index(sort), 1) for sort in rule.says if sort in self._named]
            moves.append(Move(start, needs, [(start, -1), (self._places.index(rule.end), 1), *said], [*heard, *surely]))
            if protocol.faults == "stopping":
                moves.append(Move(start, needs, [(start, -1), (self._left, -1)], heard))
        if protocol.faults == "stopping":
            moves.extend([Move(start, [], [(start, -1), (self._left, -1)], []) for start in range(len(self._places))])
        return moves

    def _made_ready(self, comparison):
        """Returns what a comparison asks of a tuple: the least sum, and the pairs (index, how often it counts)."""
        counts = self._now.counts()
        least = comparison.constant
        parts = []
        for term, integer in comparison.terms():
            if term[0] == "at":
                parts.append((self._places.index(term[1]), integer))
            elif term[0] == "said" and term[1] in self._named:
                parts.append((self._said + self._named.index(term[1]), integer))
            else:
                least -= integer * counts.get(term, 0)
        return least, parts


def can_come(now, goal, calm):
    """Tells whether from a standing on, this one too, a standing can come that meets a goal (and is calm)."""
    outlook = Outlook(now, goal, calm)
    first = outlook.beginning()
    seen = {first: True}
    left = [first]
    while left:
        state = left.pop()
        if outlook.fits(state):
            return True
        for move in outlook.moves:
            after = outlook.behind(state, move)
            if after is not None and after not in seen:
                seen[after] = True
                left.append(after)
    return False
