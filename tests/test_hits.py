"""Tests of driftstore.hits (points 1, 13 and 14): what hits come to, what is kept, faults."""

import inspect
import itertools
import random
import unittest

from driftstore import hits as module
from driftstore.errors import BadMachine, BadNumber, BadProgram, BadRows
from driftstore.fields import stairs
from driftstore.hits import faults_despite, keeps_despite, kept_despite, run_hit, struck
from driftstore.parts import keeps
from driftstore.walks import faults
from drawing import PRIMES, drawn_hits, drawn_machine, drawn_program, unit
from test_walks import lively, near_kept
from trying_out import (
    faults_tried_out, forms_tried_out, meet, memories, one_tick, reached_tried_out, small_machines, span,
)
from wrong_programs import BARE, BARE_KEPT, kept_numbers, program_numbers, wrong_instructions, wrong_programs
from wrong_values import FAR_INTEGERS, NO_INTEGERS, NO_ROW_PARTS, WrongValueTests, put_in

SWAP = (2, ((0, 1), (1, 0)), ((1, 0),), ((1, 0),))
TWO = (5, unit(2), unit(2), unit(2))
FOUND = (("ask",), ("add", 0), ("get", 0), ("say",))
HIT = ((1, 0),)
NOUGHTS = ((0, 0),)


def ways_met(machine, hits):
    """All unlike ways in which forms that meet all hits with 0 meet the memories that can be reached."""
    prime, reached = machine[0], sorted(reached_tried_out(machine))
    forms = [form for form in forms_tried_out(machine) if not any(meet(prime, form, hit) for hit in hits)]
    return {tuple(meet(prime, form, memory) for memory in reached) for form in forms}


class StruckTests(unittest.TestCase):
    def test_the_example(self):
        self.assertEqual(struck(SWAP, HIT), ((1, 0), (0, 1)))

    def test_all_that_hits_come_to_tried_out(self):
        chance = random.Random(131)
        for machine in small_machines(131, 250, 130):
            hits = drawn_hits(chance, machine)
            with self.subTest(machine=machine, hits=hits):
                found = struck(machine, hits)
                self.assertEqual(span(machine[0], found, len(machine[1])), reached_tried_out(machine, hits))
                self.assertEqual(found, stairs(machine[0], found) if found else ())

    def test_noughts_alone_come_to_nothing(self):
        for cells in (1, 2, 3, 4):
            for many in (1, 2, 3):
                self.assertEqual(struck((3, unit(cells), unit(cells), unit(cells)), ((0,) * cells,) * many), ())

    def test_hits_that_are_not_stirred_stay(self):
        self.assertEqual(struck((5, unit(3), unit(3), unit(3)), ((2, 4, 0), (1, 2, 0))), ((1, 2, 0),))
        self.assertEqual(struck((5, unit(3), unit(3), unit(3)), unit(3)), unit(3))

    def test_stirring_goes_on_to_the_last_cell(self):
        stir = ((1, 1, 0, 0), (0, 1, 1, 0), (0, 0, 1, 1), (0, 0, 0, 1))
        machine = (7, stir, ((0,) * 4,), ((0,) * 4,))
        self.assertEqual(struck(machine, ((0, 0, 0, 3),)), unit(4))
        self.assertEqual(struck(machine, ((0, 0, 3, 0), (0, 1, 0, 0))), unit(4)[:3])


class KeepsDespiteTests(unittest.TestCase):
    def test_the_example(self):
        self.assertEqual([keeps_despite(SWAP, HIT), keeps_despite(SWAP, NOUGHTS)], [1, 2])

    def test_all_forms_and_memories_tried_out(self):
        chance, told = random.Random(132), []
        for machine in small_machines(132, 300, 130):
            hits = drawn_hits(chance, machine)
            with self.subTest(machine=machine, hits=hits):
                many = keeps_despite(machine, hits)
                self.assertEqual(machine[0] ** many, len(ways_met(machine, hits)))
                told.append((many, keeps(machine)))
        self.assertGreater(len([pair for pair in told if 0 < pair[0] < pair[1]]), 15)
        self.assertGreater(len([pair for pair in told if 0 == pair[0] < pair[1]]), 15)
        self.assertEqual(sorted({pair[0] for pair in told}), [0, 1, 2, 3])

    def test_noughts_alone_are_as_no_hits(self):
        for machine in small_machines(133, 100, 10000):
            for many in (1, 2, 3):
                self.assertEqual(keeps_despite(machine, ((0,) * len(machine[1]),) * many), keeps(machine))

    def test_hits_that_meet_no_form_leave_all(self):
        machine = (3, unit(3), unit(3)[:2], unit(3)[:2])
        self.assertEqual([keeps(machine), keeps_despite(machine, ((0, 0, 1),)), struck(machine, ((0, 0, 1),))],
                         [2, 2, ((0, 0, 1),)])

    def test_each_hit_takes_one_away_on_a_still_machine(self):
        for prime in PRIMES:
            machine = (prime, unit(4), unit(4), unit(4))
            for many in (1, 2, 3):
                self.assertEqual(keeps_despite(machine, unit(4)[:many]), 4 - many)
                self.assertEqual(keeps_despite(machine, (unit(4)[0],) * many), 3)
            self.assertEqual(keeps_despite((prime, unit(3), unit(3), unit(3)), unit(3)), 0)

    def test_hits_that_strike_all_that_can_be_reached(self):
        for prime in PRIMES:
            machine = (prime, unit(2), ((1, 1),), unit(2))
            self.assertEqual([keeps(machine), keeps_despite(machine, ((prime - 1, prime - 1),))], [1, 0])
            self.assertEqual(keeps_despite((prime, ((1,),), ((1,),), ((1,),)), ((prime - 1,),)), 0)

    def test_what_hits_come_to_later_does_not_count(self):
        # Hits come to all that can be reached, but at each tick only to one cell more.
        stir = ((0, 1, 0, 0), (0, 0, 1, 0), (0, 0, 0, 1), (1, 0, 0, 0))
        machine = (7, stir, ((1, 0, 0, 0),), ((1, 0, 0, 0),))
        self.assertEqual([struck(machine, ((0, 3, 0, 0),)), keeps_despite(machine, ((0, 3, 0, 0),))], [unit(4), 3])

    def test_hits_out_of_reach_may_still_be_seen(self):
        machine = (5, unit(2), ((1, 0),), ((1, 1),))
        self.assertEqual([keeps(machine), keeps_despite(machine, ((0, 1),)), keeps_despite(machine, ((1, 4),))],
                         [1, 0, 1])


class FaultsDespiteTests(unittest.TestCase):
    def assert_faults(self, told, machine, hits, values, program, kept):
        self.assertEqual(faults_despite(machine, hits, values, program, kept), told)

    def test_noughts_alone_are_as_no_hits(self):
        chance = random.Random(134)
        for _ in range(300):
            machine = drawn_machine(chance, (2, 3, 5), 3)
            program = lively(chance, machine[0], 2)
            kept = near_kept(chance, machine, 2, program)
            hits = ((0,) * len(machine[1]),) * chance.randint(1, 3)
            self.assert_faults(faults(machine, 2, program, kept), machine, hits, 2, program, kept)

    def test_a_hit_ahead_of_each_say_ask_and_zero(self):
        machine = (3, ((1,),), ((1,),), ((1,),))
        for mark in (("say",), ("ask",), ("zero", 1), ("zero", 2)):
            program = (mark, ("get", 0), ("say",))
            self.assertEqual((2, 2, "hand") in faults_despite(machine, ((2,),), 1, program, program), True)
            self.assert_faults((), machine, ((0,),), 1, program, program)

    def test_no_hit_ahead_of_another_instruction(self):
        machine = (3, ((1,),), ((1,),), ((1,),))
        deeds = (("put", 2), ("add", 0), ("take", 0), ("plus", 0), ("minus", 0), ("get", 0))
        program = deeds + (("say",),)
        kept = (("wait",),) + deeds + (("wait",), ("go", 9), ("say",))
        # The hit ahead of the only say comes too late to change what it says.
        self.assert_faults((), machine, ((1,),), 1, program, kept)
        self.assert_faults((), machine, ((1,),), 1, program + (("stop",),), kept + (("stop",),))
        self.assert_faults(((6, 9, "hand"),), machine, ((1,),), 1, program + (("go", 3),), kept + (("go", 4),))

    def test_a_hit_is_stirred_on(self):
        # The hit ahead of the ask comes to the first cell a tick later, and is gone from there one more tick later.
        program = (("ask",), ("get", 0), ("say",))
        self.assert_faults(((2, 2, "hand"),), SWAP, ((0, 1),), 1, program, program)
        self.assert_faults((), SWAP, ((1, 0),), 1, program, program)
        late = program[:1] + (("wait",),) + program[1:]
        self.assert_faults((), SWAP, ((0, 1),), 1, program, late)
        self.assert_faults(((2, 3, "hand"),), SWAP, ((1, 0),), 1, program, late)

    def test_any_of_the_hits(self):
        program = (("ask",), ("get", 0), ("get", 1), ("say",))
        self.assert_faults((), TWO, ((1, 0),), 2, program, program)
        self.assert_faults(((3, 3, "hand"),), TWO, ((1, 0), (0, 1)), 2, program, program)
        self.assert_faults(((3, 3, "hand"),), TWO, ((0, 1), (1, 0)), 2, program, program)
        self.assert_faults(((3, 3, "hand"),), TWO, ((2, 0), (0, 0), (0, 4)), 2, program, program)

    def test_hits_that_undo_each_other_in_sums(self):
        program = (("ask",), ("get", 0), ("plus", 1), ("say",))
        self.assert_faults((), TWO, ((1, 4),), 2, program, program)
        self.assert_faults(((3, 3, "hand"),), TWO, ((1, 3),), 2, program, program)

    def test_unlike_instructions(self):
        self.assert_faults(((0, 0, "unlike"),), TWO, ((1, 0),), 1, (("ask",),), (("say",),))
        self.assert_faults(((-1, 1, "unlike"),), TWO, ((1, 0),), 1, (("ask",),), (("ask",), ("say",)))

    def test_walks_tried_out_with_all_inputs_and_hits(self):
        chance, found = random.Random(135), []
        for _ in range(500):
            machine, values = drawn_machine(chance, (2, 2, 3), 2), chance.randint(1, 2)
            if chance.random() < 0.5:
                # Here it is for the hits alone to make faults.
                machine = (machine[0],) + (unit(values),) * 3
            hits = drawn_hits(chance, machine)
            program = drawn_program(chance, machine[0], values, 9)
            if chance.random() < 0.6:
                program = lively(chance, machine[0], values)
            kept = near_kept(chance, machine, values, program)
            with self.subTest(machine=machine, hits=hits, values=values, program=program, kept=kept):
                told = faults_tried_out(machine, values, program, kept, hits)
                self.assert_faults(told, machine, hits, values, program, kept)
                found.append(len(told) - len(faults(machine, values, program, kept)))
        self.assertGreater(len([more for more in found if more > 0]), 60)
        self.assertGreaterEqual(min(found), 0)

    def test_kept_programs_of_6000_instructions(self):
        machine = (2, ((0, 1), (1, 1)), ((1, 0),), ((1, 0),))
        loop = (("ask",),) * 5999 + (("go", 0),)
        self.assert_faults((), machine, HIT, 1, (("ask",),) * 7 + (("go", 0),), loop)
        # What the hit ahead of the ask has done is to be seen at two of three ticks, what is written at two as well.
        fault = ((3, 5999, "hand"),)
        for more, despite, without in ((0, (), ()), (1, fault, ()), (2, fault, fault)):
            late = FOUND[:2] + (("wait",),) * (5996 - more) + (("get", 0),) + (("wait",),) * more + (("say",),)
            self.assertEqual(len(late), 6000)
            self.assert_faults(despite, machine, HIT, 1, FOUND, late)
            self.assert_faults(without, machine, NOUGHTS, 1, FOUND, late)


class InterfaceTests(unittest.TestCase):
    def test_names_and_places(self):
        for function, names in (
            (struck, ["machine", "hits"]),
            (keeps_despite, ["machine", "hits"]),
            (kept_despite, ["machine", "hits", "values", "program"]),
            (faults_despite, ["machine", "hits", "values", "program", "kept"]),
            (run_hit, ["machine", "hits", "program", "inputs", "most", "blows"]),
        ):
            self.assertEqual(function.__module__, "driftstore.hits")
            self.assertEqual(list(inspect.signature(function).parameters), names)
            self.assertIs(getattr(module, function.__name__), function)

    def test_arguments_can_be_passed_by_name(self):
        self.assertEqual(struck(hits=HIT, machine=SWAP), struck(SWAP, HIT))
        self.assertEqual(keeps_despite(hits=HIT, machine=SWAP), 1)
        self.assertEqual(faults_despite(kept=(("say",),), program=(("say",),), values=1, hits=HIT, machine=SWAP), ())


WRONG_HITS = [value for value in NO_ROW_PARTS if value not in (((1, 0), (0, 1)),)] + [
    0, 1, "01", [(1, 0)], ([1, 0],), ((1,),), ((1, 0, 0),), ((1, 0), (1,)), ((1, 2),), ((1, -1),), ((True, 0),),
    ((1, None),), (("1", "0"),), ((1, 0),) * 4, ((1, 0),) * 5, ({0: 1, 1: 0},), ("10",), ((1, 0), [0, 1]), ((), ()),
]


class WrongInputTests(WrongValueTests, unittest.TestCase):
    def calls(self):
        """Each function with the arguments behind the hits."""
        return ((struck, ()), (keeps_despite, ()), (kept_despite, (1, FOUND)), (faults_despite, (1, FOUND, FOUND)),
                (run_hit, (FOUND, (), 5, ())))

    def test_wrong_machines(self):
        for function, rest in self.calls():
            for machine in NO_ROW_PARTS + [list(SWAP), SWAP[:3]]:
                self.assert_raises_exactly(BadMachine, function, machine, HIT, *rest, part="machine")
            for at, part, value in (
                (0, "prime", 4), (1, "stir", ((1, 1), (1, 1))), (2, "writes", ()), (3, "sights", None),
            ):
                self.assert_raises_exactly(BadMachine, function, put_in(SWAP, at, value), HIT, *rest, part=part)

    def test_wrong_hits(self):
        for function, rest in self.calls():
            for hits in WRONG_HITS:
                self.assert_raises_exactly(BadRows, function, SWAP, hits, *rest)

    def test_hits_modulo_the_prime(self):
        for prime in PRIMES:
            machine = (prime, ((1,),), ((1,),), ((1,),))
            for function, rest in self.calls()[:2]:
                function(machine, ((prime - 1,), (0,), (prime - 1,)), *rest)
                for value in NO_ROW_PARTS + [prime, prime + 1]:
                    self.assert_raises_exactly(BadRows, function, machine, ((value,),), *rest)
                    self.assert_raises_exactly(BadRows, function, machine, ((0,), (0,), (value,)), *rest)

    def test_wrong_numbers_of_values(self):
        for value in NO_INTEGERS + FAR_INTEGERS + [0, 5, 6]:
            self.assert_raises_exactly(BadNumber, kept_despite, SWAP, HIT, value, FOUND)
            self.assert_raises_exactly(BadNumber, faults_despite, SWAP, HIT, value, FOUND, FOUND)

    def test_wrong_programs(self):
        good = (("ask",), ("put", 1), ("add", 1), ("zero", 0))
        for program, index in wrong_programs(good, 20, wrong_instructions(program_numbers(2, 2, len(good)), BARE)):
            self.assert_raises_exactly(BadProgram, kept_despite, SWAP, HIT, 2, program, index=index)
            self.assert_raises_exactly(BadProgram, faults_despite, SWAP, HIT, 2, program, FOUND, index=index)

    def test_wrong_kept_programs(self):
        good = (("ask",), ("put", 1), ("wait",), ("add", 0), ("zero", 0))
        for kept, index in wrong_programs(good, 6000, wrong_instructions(kept_numbers(SWAP, len(good)), BARE_KEPT)):
            self.assert_raises_exactly(BadProgram, faults_despite, SWAP, HIT, 1, FOUND, kept, index=index)
            self.assert_raises_exactly(BadProgram, run_hit, SWAP, HIT, kept, (), 5, (), index=index)

    def test_the_leftmost_error_is_raised(self):
        right = (SWAP, HIT, 1, FOUND, FOUND)
        wrong = ((None, BadMachine), ((), BadRows), (0, BadNumber), ((("wait",),), BadProgram), ((), BadProgram))
        for function, many in ((struck, 2), (keeps_despite, 2), (kept_despite, 4), (faults_despite, 5)):
            self.assert_leftmost_raised(function, right[:many], wrong[:many])
        self.assert_raises_exactly(BadProgram, faults_despite, SWAP, HIT, 1, FOUND + (("put", 2),), (), index=4)

    def test_all_hits_of_two_cells(self):
        for hits in itertools.product(memories(SWAP), repeat=2):
            self.assertEqual(2 ** keeps_despite(SWAP, hits), len(ways_met(SWAP, hits)))


if __name__ == "__main__":
    unittest.main()
