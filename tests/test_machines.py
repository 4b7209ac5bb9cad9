"""Tests of driftstore.machines (points 1 and 3)."""

import inspect
import itertools
import unittest

from driftstore import machines
from driftstore.errors import BadMachine, BadMemory, BadNumber
from driftstore.machines import behind_ticks, turns
from trying_out import memories, one_tick
from wrong_values import FAR_INTEGERS, NO_INTEGERS, NO_ROW_PARTS, WrongValueTests, put_in

PRIMES = (2, 3, 5, 7)
EXAMPLE = (2, ((0, 1), (1, 1)), ((1, 0),), ((1, 0),))
THREE = (3, ((1, 1, 0), (0, 1, 0), (2, 0, 2)), ((1, 0, 2), (0, 0, 0)), ((0, 1, 1),))


def machine_of(prime, stir):
    """A machine with this stir and one write and sight of noughts."""
    noughts = (0,) * len(stir)
    return (prime, stir, (noughts,), (noughts,))


def ticked(machine, memory, ticks):
    for _ in range(ticks):
        memory = one_tick(machine, memory)
    return memory


def can_be_undone(prime, stir):
    """Whether no two memories come to the same one, tried out."""
    machine = machine_of(prime, stir)
    return len({one_tick(machine, memory) for memory in memories(machine)}) == prime ** len(stir)


def stirs(prime, cells):
    """All tables of so many rows."""
    rows = list(itertools.product(range(prime), repeat=cells))
    return itertools.product(rows, repeat=cells)


def round_tried_out(machine):
    everything = memories(machine)
    now, ticks = [one_tick(machine, memory) for memory in everything], 1
    while now != everything:
        now, ticks = [one_tick(machine, memory) for memory in now], ticks + 1
    return ticks


SMALL_STIRS = (
    [(2, stir) for cells in (1, 2) for stir in stirs(2, cells)]
    + [(3, stir) for cells in (1, 2) for stir in stirs(3, cells)]
    + [(5, stir) for stir in stirs(5, 1)] + [(7, stir) for stir in stirs(7, 1)]
    + [(2, stir) for stir in list(stirs(2, 3))[::3]]
)
SOME_STIRS = [
    (3, ((0, 1, 0), (0, 0, 1), (1, 2, 0))),
    (5, ((2, 4, 1), (0, 3, 3), (1, 0, 0))),
    (7, ((3, 5), (6, 6))),
    (2, ((0, 1, 0, 0), (0, 0, 1, 0), (0, 0, 0, 1), (1, 1, 0, 0))),
    (2, ((1, 1, 0, 0), (0, 1, 1, 0), (0, 0, 1, 1), (0, 0, 0, 1))),
    (3, ((1, 0, 0, 2), (0, 2, 1, 0), (0, 0, 2, 0), (0, 0, 0, 1))),
]


class BehindTicksTests(unittest.TestCase):
    def test_the_example(self):
        self.assertEqual(behind_ticks(EXAMPLE, (1, 0), 1), (0, 1))

    def test_each_place_becomes_what_its_row_meets_the_memory_with(self):
        machine = (5, ((1, 2, 3), (0, 4, 1), (0, 0, 2)), ((0, 0, 0),), ((0, 0, 0),))
        self.assertEqual(behind_ticks(machine, (1, 3, 4), 1), (4, 1, 3))
        self.assertEqual(behind_ticks(machine, (1, 0, 0), 1), (1, 0, 0))
        self.assertEqual(behind_ticks(machine, (0, 0, 1), 1), (3, 1, 2))
        self.assertEqual(behind_ticks(machine, (0, 0, 1), 2), (1, 1, 4))

    def test_no_tick_leaves_the_memory(self):
        for prime, stir in SOME_STIRS:
            machine = machine_of(prime, stir)
            for memory in memories(machine)[::7]:
                self.assertEqual(behind_ticks(machine, memory, 0), memory)

    def test_ticks_one_by_one(self):
        for prime, stir in SOME_STIRS:
            machine = machine_of(prime, stir)
            for memory in memories(machine)[::11]:
                for ticks in range(20):
                    with self.subTest(machine=machine, memory=memory, ticks=ticks):
                        self.assertEqual(behind_ticks(machine, memory, ticks), ticked(machine, memory, ticks))

    def test_many_ticks(self):
        for prime, stir in SOME_STIRS:
            machine = machine_of(prime, stir)
            memory = (1,) + (prime - 1,) * (len(stir) - 1)
            for ticks in (255, 256, 4999):
                self.assertEqual(behind_ticks(machine, memory, ticks), ticked(machine, memory, ticks))

    def test_the_most_ticks(self):
        machine = machine_of(5, ((2, 4, 1), (0, 3, 3), (1, 0, 0)))
        memory = ticked(machine, (1, 2, 3), 99999)
        self.assertEqual(behind_ticks(machine, (1, 2, 3), 99999), memory)
        self.assertEqual(behind_ticks(machine, (1, 2, 3), 100000), one_tick(machine, memory))

    def test_writes_and_sights_do_not_matter(self):
        for writes in (((1, 0),), ((1, 1), (0, 1), (0, 0), (1, 1))):
            machine = (2, ((0, 1), (1, 1)), writes, writes)
            self.assertEqual(behind_ticks(machine, (1, 0), 4), (0, 1))

    def test_one_to_four_cells(self):
        for cells in (1, 2, 3, 4):
            turned = tuple(tuple(int(column == (row + 1) % cells) for column in range(cells)) for row in range(cells))
            memory = (6, 2, 5, 1)[:cells]
            self.assertEqual(behind_ticks(machine_of(7, turned), memory, 1), memory[1:] + memory[:1])

    def test_equal_arguments_have_equal_answers(self):
        for _ in range(2):
            self.assertEqual(behind_ticks(THREE, (1, 2, 0), 5), behind_ticks(tuple(list(THREE)), (1, 2, 0), 5))


class TurnsTests(unittest.TestCase):
    def test_the_example(self):
        self.assertEqual(turns(EXAMPLE), 3)

    def test_rounds_tried_out(self):
        for prime, stir in SMALL_STIRS:
            if can_be_undone(prime, stir):
                with self.subTest(prime=prime, stir=stir):
                    self.assertEqual(turns(machine_of(prime, stir)), round_tried_out(machine_of(prime, stir)))

    def test_a_machine_that_stands_still(self):
        for prime in PRIMES:
            for cells in (1, 2, 3, 4):
                still = tuple(tuple(int(row == column) for column in range(cells)) for row in range(cells))
                self.assertEqual(turns(machine_of(prime, still)), 1)

    def test_one_cell(self):
        self.assertEqual([turns(machine_of(7, ((k,),))) for k in range(1, 7)], [1, 3, 6, 3, 6, 2])
        self.assertEqual([turns(machine_of(5, ((k,),))) for k in range(1, 5)], [1, 4, 4, 2])

    def test_long_rounds(self):
        def companion(*last):
            return ((0, 1, 0, 0), (0, 0, 1, 0), (0, 0, 0, 1), last)
        self.assertEqual(turns(machine_of(2, companion(1, 1, 0, 0))), 15)
        self.assertEqual(turns(machine_of(3, companion(1, 1, 0, 0))), 80)
        stir = companion(2, 2, 1, 0)
        self.assertEqual(turns(machine_of(5, stir)), round_tried_out_by_units(5, stir))
        tried = [(companion(4, 1, k, 0), round_tried_out_by_units(7, companion(4, 1, k, 0))) for k in range(7)]
        self.assertEqual(max(ticks for stir, ticks in tried), 2400)
        for stir, ticks in tried:
            self.assertEqual(turns(machine_of(7, stir)), ticks)

    def test_behind_a_round_every_memory_is_as_it_was_and_not_before(self):
        for prime, stir in SOME_STIRS:
            machine = machine_of(prime, stir)
            ticks = turns(machine)
            everything = memories(machine)
            self.assertEqual([behind_ticks(machine, memory, ticks) for memory in everything], everything)
            for fewer in [k for k in range(1, ticks) if ticks % k == 0]:
                now = [behind_ticks(machine, memory, fewer) for memory in everything]
                self.assertNotEqual(now, everything)

    def test_writes_and_sights_do_not_matter(self):
        self.assertEqual(turns((2, ((0, 1), (1, 1)), ((0, 0),) * 4, ((1, 1),) * 3)), 3)


def round_tried_out_by_units(prime, stir):
    """The round, told by the memories that have one 1 alone."""
    machine = machine_of(prime, stir)
    units = [tuple(int(a == b) for b in range(len(stir))) for a in range(len(stir))]
    now, ticks = [one_tick(machine, memory) for memory in units], 1
    while now != units:
        now, ticks = [one_tick(machine, memory) for memory in now], ticks + 1
    return ticks


class InterfaceTests(unittest.TestCase):
    def test_names_and_places(self):
        for function, names in ((behind_ticks, ["machine", "memory", "ticks"]), (turns, ["machine"])):
            self.assertEqual(function.__module__, "driftstore.machines")
            self.assertEqual(list(inspect.signature(function).parameters), names)
            self.assertIs(getattr(machines, function.__name__), function)

    def test_arguments_can_be_passed_by_name(self):
        self.assertEqual(behind_ticks(ticks=1, memory=(1, 0), machine=EXAMPLE), (0, 1))
        self.assertEqual(turns(machine=EXAMPLE), 3)


class BadMachineTests(WrongValueTests, unittest.TestCase):
    def assert_part(self, part, machine):
        self.assert_raises_exactly(BadMachine, turns, machine, part=part)
        self.assert_raises_exactly(BadMachine, behind_ticks, machine, (0, 0), 0, part=part)

    def test_the_example(self):
        self.assert_part("stir", (2, ((1, 1), (1, 1)), ((1, 0),), ((1, 0),)))

    def test_what_is_no_tuple_of_four(self):
        for machine in NO_ROW_PARTS + [0, 1, 2, "2110", list(EXAMPLE), EXAMPLE[:3], EXAMPLE + (0,), EXAMPLE * 2]:
            self.assert_part("machine", machine)
        self.assert_part("machine", {0: 2, 1: ((1,),), 2: ((1,),), 3: ((1,),)})
        self.assert_part("machine", (4, (), ()))
        self.assert_part("machine", ([2, ((1,),), ((1,),), ((1,),)],))

    def test_what_is_no_prime(self):
        for prime in [k for k in range(-8, 30) if k not in PRIMES] + FAR_INTEGERS + NO_INTEGERS:
            self.assert_part("prime", put_in(EXAMPLE, 0, prime))

    def test_what_is_no_tuple_of_rows(self):
        for place, part in ((1, "stir"), (2, "writes"), (3, "sights")):
            for value in NO_ROW_PARTS + [0, 1, 2, "1001", [(1, 0), (0, 1)], ([1, 0], [0, 1]), ((1, 0), [0, 1])]:
                if value not in (((1, 0), (0, 1)), ((1,),)):
                    self.assert_part(part, put_in(EXAMPLE, place, value))
            self.assert_part(part, put_in(EXAMPLE, place, {(1, 0): 0, (0, 1): 1}))
            self.assert_part(part, put_in(EXAMPLE, place, ({0: 1, 1: 0}, {0: 0, 1: 1})))

    def test_what_is_no_row(self):
        for place, part in ((1, "stir"), (2, "writes"), (3, "sights")):
            for at in range(len(THREE[place])):
                for value in NO_ROW_PARTS + [0, 1, 2, [1, 0, 0], "100", {0: 1, 1: 0, 2: 0}, (1, 0), (1, 0, 0, 0)]:
                    self.assert_part(part, put_in(THREE, place, put_in(THREE[place], at, value)))

    def test_what_is_no_number_in_a_row(self):
        for place, part in ((1, "stir"), (2, "writes"), (3, "sights")):
            for at in range(len(THREE[place])):
                for column in range(3):
                    for value in NO_ROW_PARTS + [3, 4]:
                        row = put_in(THREE[place][at], column, value)
                        self.assert_part(part, put_in(THREE, place, put_in(THREE[place], at, row)))

    def test_true_and_false_are_no_numbers(self):
        self.assert_part("prime", (True, ((1,),), ((1,),), ((1,),)))
        self.assert_part("stir", (2, ((True,),), ((1,),), ((1,),)))
        self.assert_part("writes", (2, ((1,),), ((False,),), ((1,),)))
        self.assert_part("sights", (2, ((1,),), ((1,),), ((1,), (True,))))

    def test_numbers_from_0_to_the_prime_less_1(self):
        for prime in PRIMES:
            turns((prime, ((prime - 1,),), ((prime - 1,),), ((prime - 1,),)))
            for number in (-1, prime, prime + 1, 1 - prime):
                for place, part in ((1, "stir"), (2, "writes"), (3, "sights")):
                    self.assert_part(part, put_in((prime, ((1,),), ((1,),), ((1,),)), place, ((number,),)))

    def test_stir_has_one_to_four_rows_and_as_many_numbers(self):
        for cells in (1, 2, 3, 4):
            still = tuple(tuple(int(row == column) for column in range(cells)) for row in range(cells))
            self.assertEqual(turns(machine_of(3, still)), 1)
            noughts = ((0,) * cells,)
            self.assert_part("stir", (3, still[:-1], noughts, noughts))
            self.assert_part("stir", (3, still + still[:1], noughts, noughts))
            self.assert_part("stir", (3, tuple(row + (0,) for row in still), noughts, noughts))
            self.assert_part("stir", (3, tuple(row[1:] for row in still), noughts, noughts))
        for cells in (0, 5, 6, 12, 13):
            still = tuple(tuple(int(row == column) for column in range(cells)) for row in range(cells))
            self.assert_part("stir", machine_of(3, still))

    def test_stir_can_be_undone(self):
        for prime, stir in SMALL_STIRS:
            with self.subTest(prime=prime, stir=stir):
                if can_be_undone(prime, stir):
                    turns(machine_of(prime, stir))
                else:
                    self.assert_part("stir", machine_of(prime, stir))

    def test_undoing_depends_on_the_prime(self):
        stir = ((1, 3), (2, 1))
        self.assert_part("stir", machine_of(5, stir))
        self.assertEqual(turns(machine_of(7, stir)), round_tried_out(machine_of(7, stir)))
        self.assert_part("stir", machine_of(3, ((1, 0, 0, 0), (0, 1, 1, 1), (0, 1, 2, 0), (0, 2, 0, 1))))

    def test_one_to_four_writes_and_sights(self):
        for place, part in ((2, "writes"), (3, "sights")):
            for many in (1, 2, 3, 4):
                self.assertEqual(turns(put_in(EXAMPLE, place, ((1, 0),) * many)), 3)
            for many in (0, 5, 6, 13):
                self.assert_part(part, put_in(EXAMPLE, place, ((1, 0),) * many))

    def test_writes_and_sights_of_noughts_are_let(self):
        self.assertEqual(turns((2, ((0, 1), (1, 1)), ((0, 0),), ((0, 0),))), 3)

    def test_writes_and_sights_have_as_many_numbers_as_stir(self):
        for place, part in ((2, "writes"), (3, "sights")):
            for rows in (((1,),), ((1, 0, 0),), ((1, 0), (1,)), ((1, 0), (1, 0, 1)), ((),)):
                self.assert_part(part, put_in(EXAMPLE, place, rows))

    def test_the_first_word_that_names_what_is_wrong(self):
        wrong = (4, ((1, 1), (1, 1)), ((1,),), None)
        parts = ("prime", "stir", "writes", "sights")
        for are_wrong in itertools.product((False, True), repeat=4):
            if any(are_wrong):
                machine = tuple(wrong[k] if are_wrong[k] else EXAMPLE[k] for k in range(4))
                self.assert_part(parts[are_wrong.index(True)], machine)
        self.assert_part("machine", wrong + (0,))
        self.assert_part("machine", list(wrong))
        self.assert_part("machine", list(EXAMPLE))


class WrongInputTests(WrongValueTests, unittest.TestCase):
    def test_what_is_no_memory(self):
        for memory in NO_ROW_PARTS + [0, 1, 2, "10", [1, 0], {0: 1, 1: 0}, (1,), (1, 0, 0), ((1, 0),)]:
            self.assert_raises_exactly(BadMemory, behind_ticks, EXAMPLE, memory, 1)
            self.assert_raises_exactly(BadMemory, behind_ticks, EXAMPLE, memory, 0)

    def test_what_is_no_number_in_a_memory(self):
        for place in range(3):
            for value in NO_ROW_PARTS + [3, 4]:
                self.assert_raises_exactly(BadMemory, behind_ticks, THREE, put_in((1, 0, 2), place, value), 1)

    def test_memories_as_wide_as_stir(self):
        for cells in (1, 2, 3, 4):
            still = tuple(tuple(int(row == column) for column in range(cells)) for row in range(cells))
            machine = machine_of(5, still)
            for width in range(7):
                if width == cells:
                    self.assertEqual(behind_ticks(machine, (4,) * width, 9), (4,) * width)
                else:
                    self.assert_raises_exactly(BadMemory, behind_ticks, machine, (4,) * width, 9)

    def test_numbers_of_a_memory_from_0_to_the_prime_less_1(self):
        for prime in PRIMES:
            machine = machine_of(prime, ((1,),))
            self.assertEqual(behind_ticks(machine, (prime - 1,), 3), (prime - 1,))
            for number in (-1, prime, prime + 1):
                self.assert_raises_exactly(BadMemory, behind_ticks, machine, (number,), 3)

    def test_ticks_from_0_to_100000(self):
        self.assertEqual(behind_ticks(EXAMPLE, (1, 0), 0), (1, 0))
        self.assertEqual(behind_ticks(EXAMPLE, (1, 0), 100000), (0, 1))
        for ticks in (-1, 100001, 100002, -100000):
            self.assert_raises_exactly(BadNumber, behind_ticks, EXAMPLE, (1, 0), ticks)

    def test_what_is_no_number_of_ticks(self):
        for ticks in NO_INTEGERS + FAR_INTEGERS:
            self.assert_raises_exactly(BadNumber, behind_ticks, EXAMPLE, (1, 0), ticks)

    def test_the_leftmost_error_is_raised(self):
        for memory in (None, True, (2, 0), [1, 0], "10"):
            for ticks in (-1, 100001, True, None, "1", (1,), [1], {1: 1}):
                self.assert_raises_exactly(BadMemory, behind_ticks, EXAMPLE, memory, ticks)
                for part, at, value in (("prime", 0, 9), ("stir", 1, ()), ("sights", 3, 0)):
                    machine = put_in(EXAMPLE, at, value)
                    self.assert_raises_exactly(BadMachine, behind_ticks, machine, memory, ticks, part=part)
                    self.assert_raises_exactly(BadMachine, behind_ticks, machine, (0, 0), ticks, part=part)
                    self.assert_raises_exactly(BadMachine, behind_ticks, machine, memory, 1, part=part)


if __name__ == "__main__":
    unittest.main()
