"""Tests of driftstore.universals (points 1 and 12)."""

import inspect
import random
import unittest

from driftstore import universals
from driftstore.errors import BadMachine, BadNumber, NoWay
from driftstore.parts import keeps
from driftstore.programs import used
from driftstore.runs import run_still, run_stirred
from driftstore.universals import echo, hardest, keeps_all
from driftstore.walks import carries
from driftstore.writing import kept
from drawing import PRIMES, drawn_machine, drawn_program, drawn_row, unit
from wrong_values import FAR_INTEGERS, NO_INTEGERS, NO_ROW_PARTS, WrongValueTests, put_in

SWAP = (2, ((0, 1), (1, 0)), ((1, 0),), ((1, 0),))


class KeepsAllTests(unittest.TestCase):
    def test_the_example(self):
        self.assertIs(keeps_all(SWAP, 2), True)

    def test_exactly_if_they_are_at_most_the_told_number(self):
        chance = random.Random(121)
        for _ in range(200):
            machine = drawn_machine(chance)
            for values in (1, 2, 3, 4):
                self.assertIs(keeps_all(machine, values), values <= keeps(machine))

    def test_exactly_if_the_hardest_program_is_carried(self):
        chance = random.Random(122)
        for _ in range(60):
            machine = drawn_machine(chance, (2, 3))
            for values in (1, 2, 3, 4):
                with self.subTest(machine=machine, values=values):
                    if keeps_all(machine, values):
                        found = kept(machine, values, hardest(values))
                        self.assertIs(carries(machine, values, hardest(values), found), True)
                    else:
                        self.assertRaises(NoWay, kept, machine, values, hardest(values))

    def test_machines_that_keep_nothing_and_all(self):
        for values in (1, 2, 3, 4):
            self.assertIs(keeps_all((3, unit(4), unit(4), ((0, 0, 0, 0),)), values), False)
            self.assertIs(keeps_all((3, unit(4), ((0, 0, 0, 0),), unit(4)), values), False)
            self.assertIs(keeps_all((3, unit(4), unit(4), unit(4)), values), True)


class HardestTests(unittest.TestCase):
    def test_the_example(self):
        self.assertEqual(hardest(1), (("ask",), ("add", 0), ("ask",), ("zero", 2), ("get", 0), ("say",)))

    def test_each_number_of_values(self):
        self.assertEqual(hardest(2), (
            ("ask",), ("add", 0), ("ask",), ("add", 1), ("ask",), ("zero", 4),
            ("get", 0), ("say",), ("get", 1), ("say",),
        ))
        self.assertEqual(hardest(3), (
            ("ask",), ("add", 0), ("ask",), ("add", 1), ("ask",), ("add", 2), ("ask",), ("zero", 6),
            ("get", 0), ("say",), ("get", 1), ("say",), ("get", 2), ("say",),
        ))
        self.assertEqual(hardest(4), (
            ("ask",), ("add", 0), ("ask",), ("add", 1), ("ask",), ("add", 2), ("ask",), ("add", 3),
            ("ask",), ("zero", 8),
            ("get", 0), ("say",), ("get", 1), ("say",), ("get", 2), ("say",), ("get", 3), ("say",),
        ))

    def test_says_its_values_behind_any_number_of_noughts(self):
        for values in (1, 2, 3, 4):
            self.assertEqual(used(2, values, hardest(values)), tuple(range(values)))
            told = (5, 0, 6, 1)[:values]
            for noughts in (0, 1, 7):
                inputs = told + (0,) * noughts + (3,)
                self.assertEqual(run_still(7, values, hardest(values), inputs, 99)[:2], (told, "stopped"))


class EchoTests(unittest.TestCase):
    def test_all_echoes(self):
        for prime in PRIMES:
            self.assertEqual(echo(prime, 1), (prime, ((1,),), ((1,),), ((1,),)))
            self.assertEqual(echo(prime, 2), (prime, ((1, 0), (0, 1)), ((1, 0), (0, 1)), ((1, 0), (0, 1))))
            for values in (1, 2, 3, 4):
                self.assertEqual(echo(prime, values), (prime, unit(values), unit(values), unit(values)))
                self.assertEqual(keeps(echo(prime, values)), values)

    def test_programs_run_on_it_as_on_a_still_memory(self):
        chance = random.Random(123)
        for _ in range(100):
            prime, values = chance.choice(PRIMES), chance.randint(1, 4)
            program = drawn_program(chance, prime, values)
            inputs = drawn_row(chance, prime, 5)
            told = run_stirred(echo(prime, values), program, inputs, 50, (0,) * values)
            self.assertEqual(run_still(prime, values, program, inputs, 50), told)
            self.assertIs(carries(echo(prime, values), values, program, program), True)


class InterfaceTests(unittest.TestCase):
    def test_names_and_places(self):
        for function, names in (
            (keeps_all, ["machine", "values"]), (hardest, ["values"]), (echo, ["prime", "values"]),
        ):
            self.assertEqual(function.__module__, "driftstore.universals")
            self.assertEqual(list(inspect.signature(function).parameters), names)
            self.assertIs(getattr(universals, function.__name__), function)
        self.assertIs(keeps_all(values=2, machine=SWAP), True)
        self.assertEqual(echo(values=1, prime=2), (2, ((1,),), ((1,),), ((1,),)))
        self.assertEqual(len(hardest(values=1)), 6)


class WrongInputTests(WrongValueTests, unittest.TestCase):
    def test_wrong_machines(self):
        for machine in NO_ROW_PARTS + [list(SWAP), SWAP[:3]]:
            self.assert_raises_exactly(BadMachine, keeps_all, machine, 1, part="machine")
            self.assert_raises_exactly(BadMachine, keeps_all, machine, 5, part="machine")
        for at, part, value in ((0, "prime", 4), (1, "stir", ((1, 1), (1, 1))), (2, "writes", ()), (3, "sights", None)):
            self.assert_raises_exactly(BadMachine, keeps_all, put_in(SWAP, at, value), None, part=part)

    def test_wrong_numbers(self):
        for value in NO_INTEGERS + FAR_INTEGERS + [0, 5, 6]:
            self.assert_raises_exactly(BadNumber, keeps_all, SWAP, value)
            self.assert_raises_exactly(BadNumber, hardest, value)
            self.assert_raises_exactly(BadNumber, echo, 2, value)
            self.assert_raises_exactly(BadNumber, echo, None, value)
        for value in NO_INTEGERS + FAR_INTEGERS + [0, 1, 4, 6, 8, 9]:
            self.assert_raises_exactly(BadNumber, echo, value, 1)


if __name__ == "__main__":
    unittest.main()
