"""Tests of driftstore.parts (points 1, 6 and 7)."""

import inspect
import unittest

from driftstore import parts
from driftstore.errors import BadMachine
from driftstore.fields import stairs
from driftstore.parts import keeps, lost, reached, unseen
from drawing import PRIMES, unit
from trying_out import reached_tried_out, small_machines, span, unseen_tried_out
from wrong_values import NO_ROW_PARTS, WrongValueTests, put_in

FUNCTIONS = (reached, unseen, lost, keeps)
EXAMPLE = (2, ((1, 0, 0), (0, 0, 1), (0, 1, 0)), ((1, 1, 0),), ((0, 1, 1),))


class PartsTests(unittest.TestCase):
    def assert_staircase_of(self, machine, rows, memories_told):
        width = len(machine[1])
        self.assertEqual(span(machine[0], rows, width), memories_told)
        self.assertIs(type(rows), tuple)
        if rows:
            self.assertEqual(rows, stairs(machine[0], rows))

    def test_the_example(self):
        self.assertEqual(reached(EXAMPLE), ((1, 0, 1), (0, 1, 1)))
        self.assertEqual(unseen(EXAMPLE), ((1, 0, 0), (0, 1, 1)))
        self.assertEqual(lost(EXAMPLE), ((0, 1, 1),))
        self.assertEqual(keeps(EXAMPLE), 1)

    def test_all_memories_tried_out(self):
        for machine in small_machines(61, 300, 130):
            with self.subTest(machine=machine):
                far, dark = reached_tried_out(machine), unseen_tried_out(machine)
                self.assert_staircase_of(machine, reached(machine), far)
                self.assert_staircase_of(machine, unseen(machine), dark)
                self.assert_staircase_of(machine, lost(machine), far & dark)
                self.assertEqual(machine[0] ** keeps(machine) * len(far & dark), len(far))

    def test_all_numbers_of_values_come_up(self):
        told = [keeps(machine) for machine in small_machines(62, 300, 130)]
        self.assertEqual(sorted(set(told)), [0, 1, 2, 3, 4])

    def test_large_machines(self):
        # All memories of a machine whose cells go round, by one write and one sight.
        for prime in PRIMES:
            stir = ((0, 1, 0, 0), (0, 0, 1, 0), (0, 0, 0, 1), (1, 0, 0, 0))
            machine = (prime, stir, ((0, 0, 1, 0),), ((1, 0, 0, 0),))
            self.assertEqual([reached(machine), unseen(machine), lost(machine)], [unit(4), (), ()])
            self.assertEqual(keeps(machine), 4)
            machine = (prime, stir, ((1, 0, 1, 0),), ((1, 0, prime - 1, 0),))
            self.assertEqual(reached(machine), ((1, 0, 1, 0), (0, 1, 0, 1)))
            self.assertEqual(unseen(machine), ((1, 0, 1, 0), (0, 1, 0, 1)))
            self.assertEqual([lost(machine), keeps(machine)], [reached(machine), 0])

    def test_stirring_goes_on_to_the_last_cell(self):
        # One write comes to each of the four cells, and one sight sees each, at the fourth tick alone.
        stir = ((1, 1, 0, 0), (0, 1, 1, 0), (0, 0, 1, 1), (0, 0, 0, 1))
        for prime in PRIMES:
            machine = (prime, stir, ((0, 0, 0, 1),), ((1, 0, 0, 0),))
            self.assertEqual([reached(machine), unseen(machine), keeps(machine)], [unit(4), (), 4])

    def test_machines_that_keep_nothing(self):
        for cells in (1, 2, 3, 4):
            noughts = ((0,) * cells,)
            machine = (3, unit(cells), noughts, unit(cells))
            self.assertEqual([reached(machine), unseen(machine), lost(machine), keeps(machine)], [(), (), (), 0])
            machine = (3, unit(cells), unit(cells), noughts)
            self.assertEqual([reached(machine), unseen(machine)], [unit(cells), unit(cells)])
            self.assertEqual([lost(machine), keeps(machine)], [unit(cells), 0])
            machine = (3, unit(cells), noughts, noughts)
            self.assertEqual([reached(machine), unseen(machine), lost(machine)], [(), unit(cells), ()])

    def test_machines_that_keep_all_their_cells(self):
        for prime in PRIMES:
            for cells in (1, 2, 3, 4):
                machine = (prime, unit(cells), unit(cells), unit(cells))
                self.assertEqual([reached(machine), unseen(machine), lost(machine)], [unit(cells), (), ()])
                self.assertEqual(keeps(machine), cells)

    def test_written_here_and_seen_there(self):
        machine = (2, unit(2), ((1, 0),), ((0, 1),))
        self.assertEqual([reached(machine), unseen(machine), lost(machine), keeps(machine)],
                         [((1, 0),), ((1, 0),), ((1, 0),), 0])

    def test_four_writes_and_sights(self):
        machine = (7, unit(2), ((0, 0), (3, 1), (6, 2), (0, 0)), ((0, 0), (0, 0), (0, 0), (0, 5)))
        self.assertEqual([reached(machine), unseen(machine), lost(machine), keeps(machine)],
                         [((1, 5),), ((1, 0),), (), 1])

    def test_the_interface(self):
        for function in FUNCTIONS:
            self.assertEqual(list(inspect.signature(function).parameters), ["machine"])
            self.assertEqual(function.__module__, "driftstore.parts")
            self.assertIs(getattr(parts, function.__name__), function)
            self.assertEqual(function(machine=EXAMPLE), function(EXAMPLE))


class WrongMachineTests(WrongValueTests, unittest.TestCase):
    def test_wrong_machines(self):
        for function in FUNCTIONS:
            for machine in NO_ROW_PARTS + [0, 2, list(EXAMPLE), EXAMPLE[:3], EXAMPLE + (0,)]:
                self.assert_raises_exactly(BadMachine, function, machine, part="machine")
            for at, part in enumerate(("prime", "stir", "writes", "sights")):
                for value in NO_ROW_PARTS + [0, 1, 9, ((1, 0, 0), (0, 1, 0), (1, 1, 0)) * 2]:
                    # These two are tables that can be undone, of fewer cells.
                    if at != 1 or value not in (((1,),), ((1, 0), (0, 1))):
                        self.assert_raises_exactly(BadMachine, function, put_in(EXAMPLE, at, value), part=part)
            self.assert_raises_exactly(BadMachine, function, (4, None, None, None), part="prime")
            self.assert_raises_exactly(BadMachine, function, put_in(put_in(EXAMPLE, 3, ()), 2, ()), part="writes")


if __name__ == "__main__":
    unittest.main()
