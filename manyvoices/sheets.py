"""Sheets: the sums of a protocol, for which it only matters how many members go which way."""

from manyvoices.protocols import heard_term
from manyvoices.ways import STAYS, ways_of


class Row:
    """Says that a form is at least a constant: its integers of n, t and f, and what each way is worth in it."""

    def __init__(self, integers, constant, worths):
        self.n, self.t, self.f = integers
        self.constant = constant
        self.worths = tuple(worths)


class Threshold:
    """A condition: so many times the voices that are heard of some sorts are at least a n + b t + d."""

    def __init__(self, condition):
        integers = {term: integer for term, integer in condition.terms()}
        term = heard_term(condition)
        self.heard = term[1:]
        self.times = integers[term]
        self.a = -integers.get(("n",), 0)
        self.b = -integers.get(("t",), 0)
        self.d = condition.constant


class Case:
    """An order of conditions, few that are not surely met, and places at which nobody stands in the end."""

    def __init__(self, order, few, barred):
        self.order = order
        self.few = few
        self.barred = barred


class Sheet:
    """A protocol with its ways and conditions, made ready for sums."""

    def __init__(self, protocol):
        self.protocol = protocol
        self.stopping = protocol.faults == "stopping"
        self.ways = ways_of(protocol)
        conditions = protocol.conditions()
        self.thresholds = [Threshold(condition) for condition in conditions]
        self._needs = {
            rule.name: [conditions.index(condition) for condition in rule.when] for rule in protocol.rules()
        }
        self._promises = self.comparison_rows(protocol.promise())
        self._last = self._last_rows()
        # what is looked up for one goal after the other is kept for each order
        self._stages = {}
        self._met = {}

    def bare_case(self, order):
        """Returns the case of an order alone, whatever is met in the end."""
        return Case(order, (), ())

    def case_of(self, order, few, calm):
        """Returns the case of an order and, for calm standings, of few conditions."""
        return Case(order, few, self.barred_places(few) if calm else ())

    def comparison_rows(self, comparisons):
        """Returns the rows of promises, or of a goal."""
        return [self._sum_row(comparison.terms(), comparison.constant) for comparison in comparisons]

    def form_row(self, form):
        """Returns the row that a form without rest is at least 0."""
        return self._sum_row(form.terms(), 0)

    def rows_of(self, case, goal_rows):
        """Returns the rows of a case, in the order of the weights."""
        few = [self._few_row(self.thresholds[number]) for number in case.few]
        return [*self._order_rows(case.order), *self._promises, *goal_rows, *few, *self._last]

    def open_ways(self, case):
        """Returns the indexes of the ways that members can go in a case."""
        stages = self.stages(case.order)
        unbarred = [index for index, way in enumerate(self.ways) if way.end not in case.barred]
        return [index for index in unbarred if stages[index] is not None]

    def stages(self, order):
        """Returns for each way the list of the earliest stages of its rules, or None if one is in no stage."""
        # to go later is worth no more: the sooner a voice is said, the more conditions it counts for
        if order not in self._stages:
            first = {name: self._first_stage(name, order) for name in self._needs}
            self._stages[order] = [_stages_of_way(way, first) for way in self.ways]
        return self._stages[order]

    def lets_more(self, order):
        """Tells whether with the last condition of an order a rule may be taken that could not be ahead of it."""
        return any([self._first_stage(name, order) == len(order) for name in self._needs])

    def barred_places(self, few):
        """Returns the starts of the rules none of whose conditions is one of few."""
        rules = self.protocol.rules()
        starts = [rule.start for rule in rules if not any([number in few for number in self._needs[rule.name]])]
        return sorted(set(starts))

    def _first_stage(self, name, order):
        numbers = self._needs[name]
        if not all([number in order for number in numbers]):
            return None
        return max([order.index(number) + 1 for number in numbers], default=0)

    def _sum_row(self, terms, constant):
        integers = {term: integer for term, integer in terms}
        worths = [sum([integers.get(term, 0) for term in way.counted]) for way in self.ways]
        return Row([integers.get((name,), 0) for name in ("n", "t", "f")], constant, worths)

    def _order_rows(self, order):
        if order not in self._met:
            pairs = list(enumerate(order))
            stages = self.stages(order)
            self._met[order] = [self._order_row(self.thresholds[number], place, stages) for place, number in pairs]
        return self._met[order]

    def _order_row(self, threshold, place, stages):
        """Returns the row of a condition at a place of the order: it is met ahead of the stage behind this one."""
        voices = [_voices_up_to(place, way, row, threshold.heard) for way, row in zip(self.ways, stages)]
        lies = threshold.times if self.protocol.faults == "lying" else 0
        worths = [threshold.times * many for many in voices]
        return Row([-threshold.a, -threshold.b, lies], threshold.d, worths)

    def _few_row(self, threshold):
        """Returns the row that a condition is not met surely."""
        voices = [(("said", sort), -threshold.times) for sort in threshold.heard]
        return self._sum_row([(("n",), threshold.a), (("t",), threshold.b), *voices], 1 - threshold.d)

    def _last_rows(self):
        none = [0 for _ in self.ways]
        rows = [Row([0, 1, -1], 0, none), Row([1, -1, 0], 0, none), Row([1, 0, -1], 1, none)]
        if self.stopping:
            rows.append(Row([0, 0, 1], 0, [0 if way.ending == STAYS else -1 for way in self.ways]))
        return rows


def _stages_of_way(way, first):
    stages = []
    for rule in way.row:
        if first[rule.name] is None:
            return None
        stages.append(max([first[rule.name], *stages]))
    return stages


def _voices_up_to(last, way, stages, sorts):
    """Returns how many voices of some sorts a way says up to the last of its stages, in full or not."""
    if stages is None:
        return 0
    rules = [rule for rule, stage in zip(way.row, stages) if stage <= last]
    return len([sort for rule in rules for sort in rule.says if sort in sorts])
