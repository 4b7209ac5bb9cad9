"""Tests of driftstore.alikes (points 1 and 15)."""

import inspect
import itertools
import random
import unittest

from driftstore import alikes
from driftstore.alikes import answers, first_unlike, least_machine, turned
from driftstore.errors import BadMachine, BadNumber
from driftstore.parts import keeps, lost, reached, unseen
from drawing import PRIMES, drawn_machine, drawn_row, drawn_turning, product, unit
from trying_out import meet, one_tick, small_machines
from wrong_values import FAR_INTEGERS, NO_INTEGERS, NO_ROW_PARTS, WrongValueTests, put_in

SWAP = (2, ((0, 1), (1, 0)), ((1, 0),), ((1, 0),))
ONE = (2, ((1,),), ((1,),), ((1,),))
NONE = (2, ((1,),), ((0,),), ((1,),))
EXAMPLE = (2, ((1, 0), (0, 1)), ((1, 1),), ((1, 0),))
MANY = (7, ((1, 2), (3, 4)), ((1, 0), (0, 2), (3, 3)), ((0, 1), (5, 1)))


def answers_tried_out(machine, ticks):
    """What each sight meets each write with, stirred so often, one write at a time."""
    found = []
    for tick in range(ticks):
        table = []
        for sight in machine[3]:
            row = []
            for write in machine[2]:
                for _ in range(tick):
                    write = one_tick(machine, write)
                row.append(meet(machine[0], sight, write))
            table.append(tuple(row))
        found.append(tuple(table))
    return tuple(found)


def first_unlike_tried_out(machine, other, ticks):
    one, two = answers_tried_out(machine, ticks), answers_tried_out(other, ticks)
    places = itertools.product(range(ticks), range(len(machine[3])), range(len(machine[2])))
    return next(((t, s, w) for t, s, w in places if one[t][s][w] != two[t][s][w]), None)


def in_another_basis(chance, machine):
    """The same machine seen in another basis."""
    prime, stir, writes, sights = machine
    table, back = drawn_turning(chance, prime, len(stir))
    return (prime, product(prime, product(prime, table, stir), back),
            tuple(zip(*product(prime, table, tuple(zip(*writes))))), product(prime, sights, back))


def with_a_cell_more(machine, is_written):
    """The same machine with a cell more that is written and not seen, or seen and not written."""
    prime, stir, writes, sights = machine
    stir = tuple(row + (0,) for row in stir) + ((0,) * len(stir) + (1,),)
    numbers = (1, 0) if is_written else (0, 1)
    return (prime, stir, tuple(row + numbers[:1] for row in writes), tuple(row + numbers[1:] for row in sights))


class AnswersTests(unittest.TestCase):
    def test_at_once_and_later(self):
        self.assertEqual(answers(SWAP, 3), (((1,),), ((0,),), ((1,),)))
        self.assertEqual(answers(MANY, 1), (((0, 2, 3), (5, 2, 4)),))
        self.assertEqual(answers(MANY, 2)[1], ((3, 1, 0), (1, 0, 3)))

    def test_a_row_for_each_sight_with_a_number_for_each_write(self):
        machine = (5, unit(4), ((1, 2, 3, 4), (4, 3, 2, 1), (0, 0, 0, 1), (1, 0, 0, 0)), ((1, 1, 1, 1),))
        self.assertEqual(answers(machine, 2), (((0, 0, 1, 1),), ((0, 0, 1, 1),)))
        machine = (5, unit(2), ((1, 2),), ((1, 0), (0, 1), (1, 1), (0, 0)))
        self.assertEqual(answers(machine, 1), (((1,), (2,), (3,), (0,)),))

    def test_no_and_200_ticks(self):
        self.assertEqual(answers(SWAP, 0), ())
        self.assertEqual(answers(SWAP, 200), (((1,),), ((0,),)) * 100)
        self.assertEqual(len(answers(MANY, 200)), 200)

    def test_one_write_at_a_time(self):
        chance = random.Random(151)
        for _ in range(150):
            machine, ticks = drawn_machine(chance), chance.randint(0, 12)
            self.assertEqual(answers(machine, ticks), answers_tried_out(machine, ticks))


class FirstUnlikeTests(unittest.TestCase):
    def assert_unlike(self, told, machine, other):
        self.assertEqual(first_unlike(machine, other), told)
        self.assertEqual(first_unlike(other, machine), told)

    def test_the_example(self):
        self.assert_unlike((0, 0, 0), EXAMPLE, NONE)
        self.assert_unlike(None, EXAMPLE, ONE)

    def test_a_machine_and_itself(self):
        for machine in (SWAP, ONE, NONE, MANY):
            self.assert_unlike(None, machine, machine)

    def test_all_answers_of_many_ticks_tried_out(self):
        chance, told = random.Random(152), []
        for _ in range(500):
            machine = drawn_machine(chance, (2, 3))
            prime, stir, writes, sights = in_another_basis(chance, machine)
            if chance.random() < 0.7:
                place = chance.randrange(len(sights))
                sights = put_in(sights, place, drawn_row(chance, prime, len(stir)))
            if chance.random() < 0.3:
                stir = drawn_turning(chance, prime, len(stir))[0]
            other = (prime, stir, writes, sights)
            with self.subTest(machine=machine, other=other):
                told.append(first_unlike_tried_out(machine, other, 20))
                self.assert_unlike(told[-1], machine, other)
        found = [place for place in told if place is not None]
        self.assertGreater(told.count(None), 60)
        for at in range(3):
            self.assertGreaterEqual(len({place[at] for place in found}), 3)

    def test_unlike_numbers_of_cells(self):
        chance = random.Random(153)
        for _ in range(100):
            machine = drawn_machine(chance, most_cells=3)
            for is_written in (True, False):
                larger = in_another_basis(chance, with_a_cell_more(machine, is_written))
                self.assert_unlike(None, machine, larger)
                self.assert_unlike(None, with_a_cell_more(machine, not is_written), larger)

    def test_answers_that_differ_at_the_last_tick_that_counts(self):
        # Nothing is seen for so many ticks, then what has gone round through all cells; the other one sees nothing.
        for cells in (1, 2, 3, 4):
            stir = tuple(tuple(int(at == (row + 1) % cells) for at in range(cells)) for row in range(cells))
            machine = (3, stir, (unit(cells)[-1],), (unit(cells)[0],))
            nothing = (3, unit(1), ((0,),), ((0,),))
            self.assert_unlike((cells - 1, 0, 0), machine, nothing)
        # Two machines of four cells: what comes later are sums of what is ahead, by unlike tables.
        one = (2, ((0, 1, 0, 0), (0, 0, 1, 0), (0, 0, 0, 1), (1, 0, 0, 0)), ((0, 0, 0, 1),), ((1, 0, 0, 0),))
        other = (2, ((0, 1, 0, 0), (0, 0, 1, 0), (0, 0, 0, 1), (1, 0, 0, 1)), ((0, 0, 0, 1),), ((1, 0, 0, 0),))
        self.assert_unlike((4, 0, 0), one, other)

    def test_drawn_pairs_that_differ_as_late_as_can_be(self):
        chance, early = random.Random(154), []
        for _ in range(3000):
            cells = chance.choice((1, 2))
            pair = [
                (2, drawn_turning(chance, 2, many)[0], (drawn_row(chance, 2, many),), (drawn_row(chance, 2, many),))
                for many in (cells, 3)
            ]
            told = first_unlike_tried_out(*pair, 10)
            self.assert_unlike(told, *pair)
            early += [] if told is None else [cells + 3 - told[0]]
        self.assertEqual(min(early), 1)


class LeastMachineTests(unittest.TestCase):
    def test_the_example(self):
        self.assertEqual(least_machine(EXAMPLE), ONE)

    def test_as_few_cells_as_keeps_tells_and_never_unlike(self):
        chance, cells = random.Random(155), []
        for _ in range(600):
            machine = drawn_machine(chance)
            with self.subTest(machine=machine):
                least = least_machine(machine)
                cells.append((len(machine[1]), keeps(machine)))
                if keeps(machine) == 0:
                    self.assertIsNone(least)
                    continue
                self.assertEqual(len(least[1]), keeps(machine))
                self.assertEqual(keeps(least), keeps(machine))
                self.assertIsNone(first_unlike(machine, least))
                self.assertEqual(answers(least, 25), answers(machine, 25))
        for many in range(5):
            self.assertIn(many, [kept for _, kept in cells])
        self.assertGreater(len([pair for pair in cells if 0 < pair[1] < pair[0]]), 100)

    def test_machines_that_keep_nothing(self):
        self.assertIsNone(least_machine(NONE))
        self.assertIsNone(least_machine((3, unit(2), ((1, 0),), ((0, 1),))))
        self.assertIsNone(least_machine((3, unit(4), unit(4), ((0,) * 4,))))

    def test_machines_that_keep_all(self):
        for prime in PRIMES:
            for cells in (1, 2, 3, 4):
                machine = (prime, unit(cells), unit(cells), unit(cells))
                self.assertEqual(answers(least_machine(machine), 5), answers(machine, 5))
                self.assertEqual(len(least_machine(machine)[1]), cells)

    def test_no_machine_with_fewer_cells_tried_out(self):
        rows = [tuple(numbers) for numbers in itertools.product(range(2), repeat=1)]
        small = [(2, ((1,),), (write,), (sight,)) for write in rows for sight in rows]
        for machine in small_machines(156, 200, 20):
            if machine[0] == 2 and len(machine[2]) == len(machine[3]) == 1:
                is_like = any(first_unlike_tried_out(machine, other, 12) is None for other in small)
                least = least_machine(machine)
                self.assertEqual(least is None or len(least[1]) == 1, is_like)


class TurnedTests(unittest.TestCase):
    def test_columns_as_rows_and_sights_as_writes(self):
        self.assertEqual(turned(MANY), (7, ((1, 3), (2, 4)), ((0, 1), (5, 1)), ((1, 0), (0, 2), (3, 3))))
        self.assertEqual(turned(ONE), ONE)

    def test_it_keeps_as_many(self):
        chance = random.Random(157)
        for _ in range(400):
            machine = drawn_machine(chance)
            with self.subTest(machine=machine):
                other = turned(machine)
                self.assertEqual(keeps(other), keeps(machine))
                self.assertEqual(turned(other), machine)
                self.assertEqual(len(reached(other)) + len(unseen(machine)), len(machine[1]))
                self.assertEqual(len(lost(other)), len(reached(other)) - keeps(machine))

    def test_its_answers_are_turned(self):
        chance = random.Random(158)
        for _ in range(100):
            machine = drawn_machine(chance)
            told = tuple(tuple(zip(*table)) for table in answers(machine, 9))
            self.assertEqual(answers(turned(machine), 9), told)


class InterfaceTests(unittest.TestCase):
    def test_names_and_places(self):
        for function, names in (
            (answers, ["machine", "ticks"]), (first_unlike, ["machine", "other"]),
            (least_machine, ["machine"]), (turned, ["machine"]),
        ):
            self.assertEqual(function.__module__, "driftstore.alikes")
            self.assertEqual(list(inspect.signature(function).parameters), names)
            self.assertIs(getattr(alikes, function.__name__), function)

    def test_arguments_can_be_passed_by_name(self):
        self.assertEqual(answers(ticks=1, machine=SWAP), (((1,),),))
        self.assertEqual(first_unlike(other=NONE, machine=EXAMPLE), (0, 0, 0))
        self.assertEqual([least_machine(machine=ONE), turned(machine=ONE)], [ONE, ONE])


WRONG_PARTS = ((0, "prime", 4), (1, "stir", ((1, 1), (1, 1))), (2, "writes", ()), (3, "sights", None))


class WrongInputTests(WrongValueTests, unittest.TestCase):
    def test_wrong_machines(self):
        for function, rest in ((answers, (3,)), (first_unlike, (SWAP,)), (least_machine, ()), (turned, ())):
            for machine in NO_ROW_PARTS + [list(SWAP), SWAP[:3]]:
                self.assert_raises_exactly(BadMachine, function, machine, *rest, part="machine")
            for at, part, value in WRONG_PARTS:
                self.assert_raises_exactly(BadMachine, function, put_in(SWAP, at, value), *rest, part=part)

    def test_wrong_numbers_of_ticks(self):
        for ticks in NO_INTEGERS + FAR_INTEGERS + [-1, 201, 202]:
            self.assert_raises_exactly(BadNumber, answers, SWAP, ticks)

    def test_wrong_other_machines(self):
        for other in NO_ROW_PARTS + [list(SWAP), SWAP[:3]]:
            self.assert_raises_exactly(BadMachine, first_unlike, SWAP, other, part="machine")
        for at, part, value in WRONG_PARTS:
            self.assert_raises_exactly(BadMachine, first_unlike, SWAP, put_in(SWAP, at, value), part=part)

    def test_another_prime_and_other_numbers_of_writes_or_sights(self):
        for other in (
            (3, ((0, 1), (1, 0)), ((1, 0),), ((1, 0),)), put_in(SWAP, 2, ((1, 0), (1, 0))), put_in(SWAP, 3, unit(2)),
            (5, unit(1), ((1,),), ((1,),)), put_in(put_in(SWAP, 2, unit(2)), 3, unit(2)),
        ):
            self.assert_raises_exactly(BadMachine, first_unlike, SWAP, other, part="other")
            self.assert_raises_exactly(BadMachine, first_unlike, other, SWAP, part="other")

    def test_what_is_wrong_with_the_other_itself_comes_first(self):
        self.assert_raises_exactly(BadMachine, first_unlike, SWAP, (3, unit(2), (), ((1, 0),)), part="writes")
        self.assert_raises_exactly(BadMachine, first_unlike, SWAP, (3, unit(2), unit(2), ((1, 3),)), part="sights")

    def test_the_leftmost_error_is_raised(self):
        self.assert_raises_exactly(BadMachine, answers, put_in(SWAP, 3, ()), -1, part="sights")
        self.assert_raises_exactly(BadMachine, first_unlike, put_in(SWAP, 3, ()), None, part="sights")
        self.assert_raises_exactly(BadMachine, first_unlike, put_in(SWAP, 3, ()), (3,) + SWAP[1:], part="sights")


if __name__ == "__main__":
    unittest.main()
