"""Tests of driftstore.programs (points 1, 4 and 5)."""

import inspect
import random
import unittest

from driftstore import programs
from driftstore.errors import BadNumber, BadProgram
from driftstore.programs import used
from drawing import PRIMES, drawn_program
from wrong_programs import BARE, program_numbers, right_instructions, wrong_instructions, wrong_programs
from wrong_values import FAR_INTEGERS, NO_INTEGERS, WrongValueTests


def names_tried_out(program):
    """The values named by instructions met when all ways are followed, one step at a time."""
    met, now = set(), {0}
    while not now <= met:
        met |= now
        then = set()
        for place in now:
            if place < len(program):
                word = program[place][0]
                if word in ("zero", "go"):
                    then.add(program[place][1])
                if word not in ("go", "stop"):
                    then.add(place + 1)
        now = then | met
    named = [program[place] for place in met if place < len(program)]
    return tuple(sorted({deed[1] for deed in named if deed[0] in ("get", "plus", "minus", "add", "take")}))


class UsedTests(unittest.TestCase):
    def test_each_word_that_names_a_value(self):
        for word in ("get", "plus", "minus", "add", "take"):
            for value in range(4):
                self.assertEqual(used(5, 4, ((word, value),)), (value,))

    def test_words_that_name_none(self):
        for deed in (("put", 1), ("zero", 1), ("go", 1), ("say",), ("ask",), ("stop",)):
            self.assertEqual(used(3, 4, (deed,)), ())

    def test_ascending_and_once_each(self):
        program = (("add", 3), ("get", 0), ("take", 3), ("plus", 1), ("minus", 0))
        self.assertEqual(used(2, 4, program), (0, 1, 3))

    def test_each_zero_may_go_either_way(self):
        program = (("put", 0), ("zero", 3), ("get", 0), ("get", 1))
        self.assertEqual(used(2, 2, program), (0, 1))
        program = (("put", 1), ("zero", 4), ("get", 0), ("stop",), ("get", 1))
        self.assertEqual(used(2, 2, program), (0, 1))

    def test_values_that_no_instruction_can_come_to(self):
        self.assertEqual(used(2, 4, (("get", 0), ("stop",), ("get", 1))), (0,))
        self.assertEqual(used(2, 4, (("go", 2), ("get", 0), ("get", 1))), (1,))
        self.assertEqual(used(2, 4, (("go", 0), ("get", 0))), ())
        self.assertEqual(used(2, 4, (("go", 1), ("go", 2), ("go", 0), ("get", 0))), ())
        self.assertEqual(used(2, 4, (("get", 2), ("go", 0), ("get", 1))), (2,))
        self.assertEqual(used(2, 4, (("go", 3), ("get", 1), ("zero", 4), ("add", 0), ("go", 6), ("get", 3))), (0,))
        self.assertEqual(used(2, 4, (("stop",), ("get", 1))), ())

    def test_the_end(self):
        self.assertEqual(used(2, 1, (("go", 1),)), ())
        self.assertEqual(used(2, 2, (("zero", 3), ("get", 1), ("go", 3))), (1,))
        self.assertEqual(used(2, 1, (("get", 0), ("zero", 2))), (0,))

    def test_all_ways_tried_out(self):
        chance = random.Random(51)
        for _ in range(1500):
            prime, values = chance.choice(PRIMES), chance.randint(1, 4)
            program = drawn_program(chance, prime, values)
            with self.subTest(program=program):
                self.assertEqual(used(prime, values, program), names_tried_out(program))

    def test_one_and_twenty_instructions(self):
        self.assertEqual(used(2, 1, (("stop",),)), ())
        self.assertEqual(used(7, 4, (("get", 0),) * 19 + (("add", 3),)), (0, 3))

    def test_the_interface(self):
        self.assertEqual(list(inspect.signature(used).parameters), ["prime", "values", "program"])
        self.assertEqual(used.__module__, "driftstore.programs")
        self.assertIs(programs.used, used)
        self.assertEqual(used(program=(("get", 0),), values=1, prime=2), (0,))


class RightAndWrongProgramsTests(WrongValueTests, unittest.TestCase):
    def test_all_that_are_instructions(self):
        for prime in PRIMES:
            for values in (1, 2, 3, 4):
                for many in (1, 2, 20):
                    for deed in right_instructions(program_numbers(prime, values, many), BARE):
                        program = (("say",),) * (many - 1) + (deed,)
                        self.assertEqual(used(prime, values, program), names_tried_out(program))

    def test_wrong_programs(self):
        good = (("ask",), ("put", 1), ("get", 1), ("zero", 0))
        wrong = wrong_instructions(program_numbers(3, 2, len(good)), BARE)
        for program, index in wrong_programs(good, 20, wrong):
            self.assert_raises_exactly(BadProgram, used, 3, 2, program, index=index)

    def test_as_many_values_as_are_told(self):
        for values in (1, 2, 3, 4):
            for word in ("get", "plus", "minus", "add", "take"):
                self.assertEqual(used(2, values, ((word, values - 1),)), (values - 1,))
                self.assert_raises_exactly(BadProgram, used, 2, values, (("say",), (word, values)), index=1)

    def test_numbers_modulo_the_prime(self):
        for prime in PRIMES:
            self.assertEqual(used(prime, 1, (("put", prime - 1),)), ())
            self.assert_raises_exactly(BadProgram, used, prime, 1, (("put", prime),), index=0)

    def test_goes_to_the_end_at_most(self):
        for word in ("go", "zero"):
            for many in (1, 2, 19, 20):
                program = (("ask",),) * (many - 1)
                self.assertEqual(used(2, 1, program + ((word, many),)), ())
                self.assert_raises_exactly(BadProgram, used, 2, 1, program + ((word, many + 1),), index=many - 1)

    def test_what_is_wrong_where_it_cannot_come_counts(self):
        self.assert_raises_exactly(BadProgram, used, 2, 1, (("stop",), ("get", 1)), index=1)

    def test_waits_are_for_kept_programs_alone(self):
        self.assert_raises_exactly(BadProgram, used, 2, 1, (("say",), ("wait",)), index=1)

    def test_wrong_numbers(self):
        program = (("get", 0),)
        for value in NO_INTEGERS + FAR_INTEGERS + [0, 1, 4, 6, 8, 9, 11]:
            self.assert_raises_exactly(BadNumber, used, value, 1, program)
        for value in NO_INTEGERS + FAR_INTEGERS + [0, 5, 6]:
            self.assert_raises_exactly(BadNumber, used, 2, value, program)

    def test_the_leftmost_error_is_raised(self):
        for program in (None, (), (("wait",),), (("get", 4),), [("say",)]):
            self.assert_raises_exactly(BadNumber, used, 4, 1, program)
            self.assert_raises_exactly(BadNumber, used, 2, 5, program)
            self.assert_raises_exactly(BadNumber, used, True, None, program)


if __name__ == "__main__":
    unittest.main()
