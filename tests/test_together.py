"""What holds over forms, protocols and runs together (points 12 to 15, 23 and 29)."""

import unittest

from manyvoices.runs import is_calm, is_run, standing
from tests import oracle
from tests.examples import ballot, echo

FAULTS = ("lying", "silent", "stopping")


def times(factor, run):
    """The run in which all numbers are so many times as great."""
    n, t, f, begun, steps = run
    return (
        factor * n,
        factor * t,
        factor * f,
        [(place, factor * many) for place, many in begun],
        [(word, name, factor * many) for word, name, many in steps],
    )


def times_told(factor, told):
    """The standing with so many times the numbers."""
    return {
        key: factor * part if key == "stopped" else {name: factor * many for name, many in part.items()}
        for key, part in told.items()
    }


class Together(unittest.TestCase):
    def protocols(self):
        for faults in FAULTS:
            yield echo(faults=faults)
            yield ballot(faults)

    def test_multiples_of_a_run(self):
        for protocol in self.protocols():
            for run in oracle.runs(protocol, 3, 2):
                for factor in (2, 3, 10**39):
                    more = times(factor, run)
                    self.assertTrue(is_run(protocol, more))
                    self.assertEqual(standing(protocol, more), times_told(factor, standing(protocol, run)))
                    self.assertEqual(is_calm(protocol, more), is_calm(protocol, run))

    def test_a_silent_run_is_a_lying_one(self):
        for made in (lambda faults: echo(faults=faults), ballot):
            silent, lying = made("silent"), made("lying")
            for run in oracle.runs(silent, 4, 2):
                self.assertTrue(is_run(lying, run))
                self.assertEqual(standing(lying, run), standing(silent, run))
                self.assertEqual(is_calm(lying, run), is_calm(silent, run))

    def test_without_faulty_ones_all_words_are_alike(self):
        for made in (lambda faults: echo(faults=faults), ballot):
            protocols = [made(faults) for faults in FAULTS]
            for run in oracle.runs(protocols[0], 3, 2):
                if run[2] != 0:
                    continue
                for step in [None, *oracle.steps(protocols[0], run[0])]:
                    longer = run if step is None else (*run[:4], [*run[4], step])
                    self.assertEqual(len({is_run(protocol, longer) for protocol in protocols}), 1)
                    if is_run(protocols[0], longer):
                        told = [standing(protocol, longer) for protocol in protocols]
                        self.assertEqual(told[0], told[1])
                        self.assertEqual(told[0], told[2])

    def test_there_are_such_runs(self):
        # so that the tests above look at something
        for protocol in self.protocols():
            runs = list(oracle.runs(protocol, 3, 2))
            self.assertTrue(any(len(run[4]) == 2 for run in runs))
            self.assertTrue(protocol.promise() or any(run[2] > 0 for run in runs))
