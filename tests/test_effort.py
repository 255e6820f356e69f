"""How much is worked for an answer: counted, as a clock would tell other times on other machines."""

import unittest

from manyvoices.forms import above, at, at_least, begun, bound, faulty, members
from manyvoices.reaching import together
from manyvoices.shares import borne, shares
from manyvoices.tables import Table
from manyvoices.wishes import broken, by_faults, parting, spare, thresholds
from tests.examples import echo

WISHES = [
    ("never", [at_least(0, begun("news")), at_least(at("done"), 1)]),
    ("calm", [above(members() - faulty(), at("done")), at_least(begun("news"), members() - faulty())]),
]
TORN = [at_least(at("done"), 1), above(members() - faulty(), at("done"))]


def exchanges(ask):
    """How often unknowns of tables change places while something is asked, and the answer."""
    many = [0]
    exchange = Table._exchange

    def counted(table, index, column):
        many[0] += 1
        exchange(table, index, column)

    Table._exchange = counted
    try:
        answer = ask()
    finally:
        Table._exchange = exchange
    return many[0], answer


class Effort(unittest.TestCase):
    def test_questions_on_the_echo(self):
        questions = [
            (110, lambda: thresholds(echo(), "join", 0, [0, 1, 0, 1], WISHES)),
            (90, lambda: parting(echo(), echo())),
            (50, lambda: by_faults(echo(), WISHES)),
            (35, lambda: spare(echo(), WISHES)),
            (26, lambda: together(echo(), calm=True)),
            (60, lambda: shares(echo(), TORN, bound(), calm=True)),
            (20, lambda: borne(echo(), WISHES)),
            (20, lambda: broken(echo(), WISHES)),
        ]
        for most, ask in questions:
            many, answer = exchanges(ask)
            self.assertLessEqual(many, most)
            # what is asked again is worked out again, and told alike
            self.assertEqual(exchanges(ask), (many, answer))


if __name__ == "__main__":
    unittest.main()
