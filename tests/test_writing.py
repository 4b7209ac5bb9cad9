"""Tests of driftstore.writing (points 1 and 11)."""

import inspect
import random
import unittest
from unittest import mock

from driftstore import writing
from driftstore.errors import BadMachine, BadNumber, BadProgram, NoWay, TooMany
from driftstore.machines import turns
from driftstore.parts import keeps
from driftstore.programs import used
from driftstore.runs import run_still, run_stirred
from driftstore.universals import hardest
from driftstore.walks import carries, faults
from driftstore.writing import kept
from drawing import PRIMES, drawn_machine, drawn_program, drawn_row, unit
from trying_out import faults_tried_out
from wrong_programs import BARE, program_numbers, right_instructions, wrong_instructions, wrong_programs
from wrong_values import FAR_INTEGERS, NO_INTEGERS, NO_ROW_PARTS, WrongValueTests, put_in

SWAP = (2, ((0, 1), (1, 0)), ((1, 0),), ((1, 0),))
DEAF = (2, ((1,),), ((0,),), ((1,),))
FOUND = (("ask",), ("add", 0), ("get", 0), ("say",))
ALL_DEEDS = (
    ("ask",), ("add", 0), ("ask",), ("take", 1), ("put", 1), ("plus", 0), ("minus", 1), ("say",), ("zero", 14),
    ("add", 1), ("get", 1), ("say",), ("go", 0), ("stop",), ("get", 0), ("say",), ("zero", 2), ("take", 0), ("go", 4),
)
# Behind 2400 ticks, not before, any memory but nought is as it was.
LONG = (7, ((0, 1, 0, 0), (0, 0, 1, 0), (0, 0, 0, 1), (4, 0, 3, 2)), ((1, 0, 0, 0),), ((1, 0, 0, 0),))


class KeptTests(unittest.TestCase):
    def assert_carried(self, machine, values, program):
        """Some kept program comes, and it carries the program."""
        found = kept(machine, values, program)
        self.assertIs(type(found), tuple)
        self.assertTrue(1 <= len(found) <= 6000)
        self.assertEqual(faults(machine, values, program, found), ())
        return found

    def assert_says_the_same(self, machine, values, program, found, inputs):
        """Runs of both say the same, and stop both or neither."""
        said, word, _ = run_still(machine[0], values, program, inputs, 2000)
        most = 100000 if word == "stopped" else 4000
        told, other_word, _ = run_stirred(machine, found, inputs, most, (0,) * len(machine[1]))
        self.assertEqual(other_word, word)
        many = min(len(said), len(told))
        self.assertEqual(told[:many], said[:many])
        if word == "stopped":
            self.assertEqual(told, said)

    def test_drawn_programs_on_drawn_machines(self):
        chance = random.Random(111)
        many = {"carried": 0, "no way": 0}
        for _ in range(900):
            machine, values = drawn_machine(chance), chance.randint(1, 4)
            program = drawn_program(chance, machine[0], values)
            with self.subTest(machine=machine, values=values, program=program):
                if len(used(machine[0], values, program)) > keeps(machine):
                    self.assertRaises(NoWay, kept, machine, values, program)
                    many["no way"] += 1
                    continue
                found = self.assert_carried(machine, values, program)
                many["carried"] += 1
                for length in (0, 3, 9):
                    inputs = drawn_row(chance, machine[0], length)
                    self.assert_says_the_same(machine, values, program, found, inputs)
        self.assertGreater(min(many.values()), 200)

    def test_walks_tried_out_with_all_inputs(self):
        chance = random.Random(112)
        for _ in range(250):
            machine, values = drawn_machine(chance, (2, 3), 2), chance.randint(1, 2)
            program = drawn_program(chance, machine[0], values, 8)
            if len(used(machine[0], values, program)) <= keeps(machine):
                with self.subTest(machine=machine, values=values, program=program):
                    found = kept(machine, values, program)
                    self.assertEqual(faults_tried_out(machine, values, program, found), ())

    def test_as_many_used_values_as_keeps_tells_and_one_more(self):
        chance = random.Random(113)
        met = []
        while len(met) < 60:
            machine = drawn_machine(chance)
            many = keeps(machine)
            met.append(many)
            with self.subTest(machine=machine):
                if many > 0:
                    found = self.assert_carried(machine, many, hardest(many))
                    inputs = drawn_row(chance, machine[0], many) + (0, 0, 1) + drawn_row(chance, machine[0], 3)
                    self.assert_says_the_same(machine, many, hardest(many), found, inputs)
                if many < 4:
                    self.assertRaises(NoWay, kept, machine, many + 1, hardest(many + 1))
        self.assertEqual(sorted(set(met)), [0, 1, 2, 3, 4])

    def test_all_deeds(self):
        for prime in PRIMES:
            for machine in (
                (prime, unit(2), unit(2), unit(2)),
                (prime, ((0, 1), (1, 0)), ((1, 0),), ((1, 0),)),
                (prime, ((1, 1, 0), (0, 1, 1), (0, 0, 1)), ((1, 1, 1), (0, 0, prime - 1)), ((1, 0, 0),)),
                (prime, ((0, 1, 0, 0), (0, 0, 1, 0), (0, 0, 0, 1), (1, 1, 0, 0)), ((1, 0, 0, 0),), ((0, 0, 1, 1),)),
            ):
                found = self.assert_carried(machine, 2, ALL_DEEDS)
                for inputs in ((), (1, 0), (0, 1, 1), (1, 1, 0, 1), (prime - 1, 1, prime - 1, 1, 1)):
                    self.assert_says_the_same(machine, 2, ALL_DEEDS, found, inputs)

    def test_only_used_values_count(self):
        machine = (3, unit(2), ((1, 1),), ((1, 0),))
        self.assertEqual(keeps(machine), 1)
        program = (("ask",), ("add", 3), ("get", 3), ("say",), ("stop",), ("add", 0), ("add", 1))
        self.assert_carried(machine, 4, program)
        self.assertRaises(NoWay, kept, machine, 4, put_in(program, 4, ("say",)))
        self.assertRaises(NoWay, kept, machine, 4, put_in(program, 2, ("get", 2)))

    def test_programs_without_a_value_on_a_machine_that_keeps_nothing(self):
        for program in ((("ask",), ("say",), ("zero", 0), ("put", 1), ("say",)), (("say",),), (("stop",),)):
            self.assert_carried(DEAF, 1, program)
        self.assertRaises(NoWay, kept, DEAF, 1, (("get", 0), ("say",)))
        self.assertRaises(NoWay, kept, DEAF, 1, FOUND)

    def test_programs_that_come_to_no_mark_any_more(self):
        ends = (
            (("stop",),), (("go", 0),), (("go", 1),), (("put", 1),), (("add", 0),), (("put", 1), ("go", 0)),
            (("add", 0), ("get", 0), ("go", 0)), (("go", 1), ("go", 0)), (("go", 2), ("say",), ("add", 0), ("go", 2)),
        )
        for program in ends + tuple((("ask",), ("say",)) + tuple(
                (deed[0], deed[1] + 2) if deed[0] == "go" else deed for deed in program) for program in ends):
            found = self.assert_carried(SWAP, 1, program)
            self.assert_says_the_same(SWAP, 1, program, found, (1,))

    def test_one_and_twenty_instructions(self):
        self.assert_carried(SWAP, 1, (("say",),))
        self.assert_carried(SWAP, 2, ALL_DEEDS + (("stop",),))
        program = (("ask",), ("add", 0), ("zero", 0), ("get", 1), ("say",)) * 4
        self.assert_carried((5, ((1, 1), (0, 1)), ((0, 1),), ((1, 0),)), 2, program)

    def test_zeros_on_zeros(self):
        chance = random.Random(114)
        machine = (3, ((0, 1, 0), (0, 0, 1), (1, 2, 0)), ((1, 0, 0),), ((1, 0, 0),))
        for _ in range(60):
            program = tuple(
                ("zero", chance.randint(0, 20)) if chance.random() < 0.5
                else chance.choice((("add", 0), ("get", 1), ("take", 2), ("plus", 0), ("say",), ("ask",)))
                for _ in range(20)
            )
            with self.subTest(program=program):
                found = self.assert_carried(machine, 3, program)
                inputs = drawn_row(chance, 3, 10)
                said, _, _ = run_still(3, 3, program, inputs, 300)
                told, _, _ = run_stirred(machine, found, inputs, 300, (0, 0, 0))
                self.assertEqual(said[:len(told)], told)

    def test_long_rounds(self):
        self.assertEqual([turns(LONG), keeps(LONG)], [2400, 4])
        for program in (hardest(4), FOUND, (("ask",), ("add", 0), ("get", 0), ("say",), ("go", 0))):
            self.assert_carried(LONG, 4, program)

    def test_columns_that_rest_early_make_short_loops(self):
        # The round is 342, but one value can stand where it is as it was at each tick, so that no wait is needed.
        stir = ((0, 1, 0, 0), (0, 0, 1, 0), (3, 0, 1, 0), (0, 0, 0, 1))
        machine = (7, stir, ((1, 0, 0, 1), (0, 0, 0, 1)), ((1, 0, 0, 1), (0, 0, 0, 1)))
        self.assertEqual([turns(machine), keeps(machine)], [342, 4])
        program = (("ask",), ("add", 0), ("get", 0), ("say",), ("zero", 1), ("zero", 2), ("zero", 3), ("go", 0))
        self.assertEqual(len(self.assert_carried(machine, 1, program)), len(program))
        program = put_in(put_in(program, 1, ("add", 1)), 2, ("get", 2))
        self.assert_carried(machine, 3, program)

    def test_no_more_instructions_than_are_needed_on_a_still_machine(self):
        for prime in PRIMES:
            machine = (prime, unit(2), unit(2), unit(2))
            for program in (FOUND, FOUND[:3], ALL_DEEDS[:8], hardest(2), (("zero", 1), ("zero", 3), ("say",))):
                self.assertEqual(len(self.assert_carried(machine, 2, program)), len(program))
            self.assertLessEqual(len(self.assert_carried(machine, 2, ALL_DEEDS)), len(ALL_DEEDS))

    def test_no_more_waits_than_a_loop_needs(self):
        # Two ticks and one wait make the round of 3 full.
        machine = (2, ((0, 1), (1, 1)), ((1, 0),), ((1, 0),))
        found = self.assert_carried(machine, 1, (("ask",), ("add", 0), ("go", 0)))
        self.assertLessEqual(len(found), 5)

    def test_too_many(self):
        # Each of the zeros goes back to another place, and the stirring must come round for each.
        program = (("ask",), ("add", 0), ("get", 0), ("say",)) + tuple(("zero", place) for place in range(4))
        program = program + (("get", 1), ("add", 2), ("get", 3), ("say",)) + tuple(("zero", k) for k in range(8, 12))
        with self.assertRaises(TooMany) as caught:
            kept(LONG, 4, program)
        self.assertEqual(caught.exception.most, 6000)

    def test_just_as_many_as_may_be(self):
        many = len(kept(LONG, 1, FOUND + (("go", 0),)))
        self.assertGreater(many, 2300)
        with mock.patch.object(writing, "MOST_KEPT", many):
            self.assertEqual(len(kept(LONG, 1, FOUND + (("go", 0),))), many)
        with mock.patch.object(writing, "MOST_KEPT", many - 1):
            self.assertRaises(TooMany, kept, LONG, 1, FOUND + (("go", 0),))

    def test_equal_arguments_have_equal_answers(self):
        self.assertEqual(kept(SWAP, 2, ALL_DEEDS), kept(SWAP, 2, ALL_DEEDS))

    def test_the_interface(self):
        self.assertEqual(list(inspect.signature(kept).parameters), ["machine", "values", "program"])
        self.assertEqual(kept.__module__, "driftstore.writing")
        self.assertIs(writing.kept, kept)
        self.assertIs(carries(SWAP, 1, FOUND, kept(program=FOUND, values=1, machine=SWAP)), True)


class WrongInputTests(WrongValueTests, unittest.TestCase):
    def test_all_that_are_instructions(self):
        machine = (3, unit(3), unit(3), unit(3))
        for deed in right_instructions(program_numbers(3, 3, 2), BARE):
            self.assertIs(carries(machine, 3, (("ask",), deed), kept(machine, 3, (("ask",), deed))), True)

    def test_wrong_programs(self):
        good = (("ask",), ("put", 1), ("add", 1), ("zero", 0))
        for program, index in wrong_programs(good, 20, wrong_instructions(program_numbers(2, 2, len(good)), BARE)):
            self.assert_raises_exactly(BadProgram, kept, SWAP, 2, program, index=index)

    def test_wrong_machines(self):
        for machine in NO_ROW_PARTS + [list(SWAP), SWAP[:3]]:
            self.assert_raises_exactly(BadMachine, kept, machine, 1, FOUND, part="machine")
        for at, part, value in ((0, "prime", 4), (1, "stir", ((1, 1), (1, 1))), (2, "writes", ()), (3, "sights", None)):
            self.assert_raises_exactly(BadMachine, kept, put_in(SWAP, at, value), 1, FOUND, part=part)

    def test_wrong_numbers_of_values(self):
        for value in NO_INTEGERS + FAR_INTEGERS + [0, 5, 6]:
            self.assert_raises_exactly(BadNumber, kept, SWAP, value, FOUND)

    def test_the_leftmost_error_is_raised_and_no_way_behind_all_others(self):
        self.assert_raises_exactly(BadMachine, kept, None, 9, (), part="machine")
        self.assert_raises_exactly(BadMachine, kept, put_in(DEAF, 3, ()), 1, (), part="sights")
        self.assert_raises_exactly(BadNumber, kept, DEAF, 9, ())
        self.assert_raises_exactly(BadProgram, kept, DEAF, 1, (), index=None)
        self.assert_raises_exactly(BadProgram, kept, DEAF, 1, FOUND + (("add", 1),), index=4)
        self.assert_raises_exactly(NoWay, kept, DEAF, 1, FOUND)
        self.assert_raises_exactly(NoWay, kept, DEAF, 4, FOUND)


if __name__ == "__main__":
    unittest.main()
