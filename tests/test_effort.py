"""How much is worked for an answer: counted, as a clock would tell other times on other machines."""

import unittest

from manyvoices.crowds import Crowd
from manyvoices.forms import above, at, at_least, begun, bound, faulty, members
from manyvoices.numbers import numbers
from manyvoices.reaching import together
from manyvoices.shares import borne, shares
from manyvoices.tables import Table
from manyvoices.turning import turning
from manyvoices.wishes import broken, by_faults, parting, spare, thresholds
from tests.examples import echo

NEWS = [at_least(0, begun("news")), at_least(at("done"), 1)]
TORN = [at_least(at("done"), 1), above(members() - faulty(), at("done"))]
WISHES = [("never", NEWS), ("calm", TORN)]


class Effort(unittest.TestCase):
    def worked(self, ask):
        """How often unknowns of tables change places, how many crowds are looked at, and the answer."""
        many = [0, 0]
        exchange, init = Table._exchange, Crowd.__init__

        def exchanged(table, index, column):
            many[0] += 1
            exchange(table, index, column)

        def made(crowd, sheet, amounts):
            many[1] += 1
            init(crowd, sheet, amounts)

        Table._exchange, Crowd.__init__ = exchanged, made
        try:
            answer = ask()
        finally:
            Table._exchange, Crowd.__init__ = exchange, init
        return many, answer

    def test_questions_on_the_echo(self):
        form = at("done") + bound()
        questions = [
            (34, 18, lambda: numbers(echo(), TORN, 2, calm=True)),
            (24, 5, lambda: shares(echo(), TORN, form)),
            (64, 18, lambda: shares(echo(), TORN, form, calm=True)),
            (56, 21, lambda: borne(echo(), WISHES)),
            (12, 8, lambda: broken(echo(), WISHES)),
            (16, 12, lambda: spare(echo(), WISHES)),
            (30, 30, lambda: thresholds(echo(), "join", 0, [0, 0, 0, 1], WISHES)),
            (34, 21, lambda: by_faults(echo(), WISHES)),
            (0, 0, lambda: parting(echo(), echo())),
            (96, 46, lambda: parting(echo(), echo(faults="silent"))),
            (10, 5, lambda: together(echo(), calm=True)),
            (34, 12, lambda: turning(echo(), "end", 0, WISHES)),
        ]
        for most_exchanges, most_crowds, ask in questions:
            (exchanges, crowds), answer = self.worked(ask)
            self.assertLessEqual(exchanges, most_exchanges)
            self.assertLessEqual(crowds, most_crowds)
            # what is asked again is worked out again, and told alike
            self.assertEqual(self.worked(ask), ([exchanges, crowds], answer))


if __name__ == "__main__":
    unittest.main()
