"""Tests of driftstore.runs (points 1, 4 and 5)."""

import inspect
import random
import unittest

from driftstore import runs
from driftstore.errors import BadInputs, BadMachine, BadMemory, BadNumber, BadProgram
from driftstore.runs import run_still, run_stirred
from drawing import PRIMES, drawn_kept, drawn_machine, drawn_program, drawn_row
from trying_out import landing, run_by_words
from wrong_programs import (
    BARE, BARE_KEPT, kept_numbers, program_numbers, right_instructions, wrong_instructions, wrong_programs,
)
from wrong_values import FAR_INTEGERS, NO_INTEGERS, NO_ROW_PARTS, WrongValueTests, put_in

SWAP = (2, ((0, 1), (1, 0)), ((1, 0),), ((1, 0),))
THREE = (5, ((1, 2, 0), (0, 1, 0), (3, 0, 2)), ((1, 0, 2), (0, 4, 1)), ((0, 1, 1), (2, 0, 3)))
FOUND = (("ask",), ("add", 0), ("get", 0), ("say",))


def run_with_values(prime, values, program, inputs, most):
    """A run on a still memory, the values by name."""
    held, inputs, hand, count, said = [0] * values, list(inputs), 0, 0, []
    place = landing(program, 0)
    while place is not None and count < most:
        word, number = (program[place] + (None,))[:2]
        then = place + 1
        if word in ("get", "plus", "minus"):
            hand = {"get": held[number], "plus": hand + held[number], "minus": hand - held[number]}[word] % prime
        elif word in ("add", "take"):
            held[number] = (held[number] + (hand if word == "add" else -hand)) % prime
        elif word == "put":
            hand = number
        elif word == "say":
            said.append(hand)
        elif word == "ask":
            hand = inputs.pop(0) if inputs else 0
        elif word == "zero" and hand == 0:
            then = number
        count += 1
        place = landing(program, then)
    return tuple(said), "stopped" if place is None else "running", count


class RunStirredTests(unittest.TestCase):
    def assert_says(self, said, machine, program, inputs, memory):
        self.assertEqual(run_stirred(machine, program, inputs, 1000, memory)[0], said)

    def test_the_example(self):
        self.assertEqual(run_stirred(SWAP, FOUND, (1,), 9, (0, 0)), ((0,), "stopped", 4))
        late = FOUND[:2] + (("wait",),) + FOUND[2:]
        self.assertEqual(run_stirred(SWAP, late, (1,), 9, (0, 0)), ((1,), "stopped", 5))

    def test_get(self):
        self.assert_says((4,), THREE, (("get", 0), ("say",)), (), (1, 2, 2))
        self.assert_says((3,), THREE, (("get", 1), ("say",)), (), (1, 2, 2))
        self.assert_says((2,), THREE, (("put", 4), ("get", 1), ("say",)), (), (2, 0, 0))
        self.assert_says((0,), THREE, (("put", 2), ("get", 1), ("say",)), (), (0, 0, 0))

    def test_get_sees_the_memory_ahead_of_the_stirring(self):
        machine = (7, ((3,),), ((1,),), ((1,),))
        self.assert_says((5, 3, 6), machine, (("get", 0), ("say",)) * 3, (), (5,))

    def test_plus_and_minus_are_modulo_the_prime(self):
        machine = (5, ((1,),), ((1,),), ((3,), (1,)))
        self.assert_says((2, 3), machine, (("put", 4), ("plus", 0), ("say",), ("plus", 1), ("say",)), (), (1,))
        machine = (5, ((1,),), ((1,),), ((3,), (2,)))
        self.assert_says((4, 2), machine, (("put", 2), ("minus", 0), ("say",), ("minus", 1), ("say",)), (), (1,))
        self.assert_says((1,), machine, (("minus", 0), ("minus", 0), ("say",)), (), (4,))

    def test_add_and_take_add_multiples_of_a_write(self):
        machine = (5, ((1, 0), (0, 1)), ((1, 2), (3, 0)), ((1, 0), (0, 1)))
        tell = (("get", 0), ("say",), ("get", 1), ("say",))
        self.assert_says((3, 1), machine, (("put", 3), ("add", 0)) + tell, (), (0, 0))
        self.assert_says((4, 4), machine, (("put", 3), ("add", 1)) + tell, (), (0, 4))
        self.assert_says((2, 4), machine, (("put", 3), ("take", 0)) + tell, (), (0, 0))
        self.assert_says((4, 3), machine, (("put", 4), ("take", 1)) + tell, (), (1, 3))

    def test_add_is_ahead_of_the_stirring(self):
        machine = (7, ((3,),), ((1,),), ((1,),))
        self.assert_says((6,), machine, (("put", 2), ("add", 0), ("get", 0), ("say",)), (), (0,))

    def test_add_and_take_leave_the_hand(self):
        for word in ("add", "take"):
            self.assert_says((4,), THREE, (("put", 4), (word, 1), ("say",)), (), (1, 1, 1))

    def test_put_and_wait(self):
        for number in range(5):
            self.assert_says((number,), THREE, (("put", number), ("wait",), ("wait",), ("say",)), (), (1, 2, 3))
        self.assert_says((1, 1, 0), SWAP, (("get", 0), ("say",), ("get", 0), ("say",), ("wait",), ("get", 0), ("say",)),
                         (), (1, 0))

    def test_each_deed_is_followed_by_one_stirring(self):
        machine = (7, ((3,),), ((0,),), ((1,),))
        for deed in right_instructions(kept_numbers(machine, 3), BARE_KEPT):
            if deed[0] not in ("go", "stop", "zero"):
                with self.subTest(deed=deed):
                    program = (deed, ("get", 0), ("say",))
                    said, word, ticks = run_stirred(machine, program, (), 9, (1,))
                    self.assertEqual((said[-1], word, ticks), (3, "stopped", 3))
        self.assertEqual(run_stirred(machine, (("zero", 1), ("get", 0), ("say",)), (), 9, (1,)), ((3,), "stopped", 3))
        self.assertEqual(run_stirred(machine, (("go", 1), ("get", 0), ("say",)), (), 9, (1,)), ((1,), "stopped", 2))

    def test_the_hand_is_0_at_first(self):
        self.assert_says((0,), SWAP, (("say",),), (1,), (1, 1))

    def test_ask_without_an_input_gives_0(self):
        program = (("ask",), ("say",), ("put", 3), ("ask",), ("say",), ("put", 1), ("ask",), ("say",))
        self.assert_says((4, 0, 0), THREE, program, (4,), (0, 0, 0))
        self.assert_says((0, 0, 0), THREE, program, (), (0, 0, 0))
        self.assert_says((4, 1, 2), THREE, program, (4, 1, 2, 3), (0, 0, 0))

    def test_fifty_inputs(self):
        inputs = tuple(k % 5 for k in range(1, 51))
        said, word, ticks = run_stirred(THREE, (("ask",), ("say",), ("go", 0)), inputs, 104, (0, 0, 0))
        self.assertEqual((said, word, ticks), (inputs + (0, 0), "running", 104))

    def test_zero_goes_on_at_its_number_if_the_hand_is_0(self):
        program = (("ask",), ("zero", 4), ("say",), ("go", 0), ("put", 1), ("say",))
        self.assertEqual(run_stirred(THREE, program, (3, 2, 0), 99, (0, 0, 0)), ((3, 2, 1), "stopped", 10))

    def test_zero_to_the_end_and_to_itself(self):
        self.assertEqual(run_stirred(SWAP, (("zero", 2), ("say",)), (), 9, (0, 0)), ((), "stopped", 1))
        self.assertEqual(run_stirred(SWAP, (("zero", 0), ("say",)), (), 9, (0, 0)), ((), "running", 9))
        self.assertEqual(run_stirred(SWAP, (("put", 1), ("zero", 1)), (), 9, (0, 0)), ((), "stopped", 2))

    def test_go_and_stop_take_no_tick(self):
        self.assertEqual(run_stirred(SWAP, (("stop",),), (), 9, (0, 0)), ((), "stopped", 0))
        self.assertEqual(run_stirred(SWAP, (("say",), ("stop",), ("say",)), (), 9, (0, 0)), ((0,), "stopped", 1))
        self.assertEqual(run_stirred(SWAP, (("go", 1), ("go", 3), ("say",), ("say",)), (), 9, (0, 0)),
                         ((0,), "stopped", 1))
        self.assertEqual(run_stirred(SWAP, (("go", 1),), (), 9, (0, 0)), ((), "stopped", 0))
        self.assertEqual(run_stirred(SWAP, (("say",), ("go", 2)), (), 9, (0, 0)), ((0,), "stopped", 1))
        self.assertEqual(run_stirred(SWAP, (("wait",), ("go", 0)), (), 9, (0, 0)), ((), "running", 9))

    def test_gos_that_never_come_to_another_instruction_are_an_end(self):
        for program in (
            (("go", 0),), (("go", 1), ("go", 0)), (("go", 2), ("say",), ("go", 3), ("go", 2)),
            (("go", 1), ("go", 1)), (("go", 3), ("wait",), ("go", 4), ("go", 2), ("go", 3)),
        ):
            self.assertEqual(run_stirred(SWAP, program, (), 9, (1, 0)), ((), "stopped", 0))
        self.assertEqual(run_stirred(SWAP, (("say",), ("go", 1)), (), 9, (1, 0)), ((0,), "stopped", 1))
        self.assertEqual(run_stirred(SWAP, (("zero", 2), ("say",), ("go", 3), ("go", 2)), (), 9, (1, 0)),
                         ((), "stopped", 1))

    def test_at_most_so_many_ticks(self):
        program = (("put", 1), ("say",), ("go", 1))
        self.assertEqual(run_stirred(SWAP, program, (), 0, (0, 0)), ((), "running", 0))
        self.assertEqual(run_stirred(SWAP, program, (), 1, (0, 0)), ((), "running", 1))
        self.assertEqual(run_stirred(SWAP, program, (), 2, (0, 0)), ((1,), "running", 2))
        self.assertEqual(run_stirred(SWAP, program, (), 100000, (0, 0)), ((1,) * 99999, "running", 100000))

    def test_a_run_that_ends_with_the_last_tick_has_stopped(self):
        self.assertEqual(run_stirred(SWAP, (("say",), ("say",)), (), 1, (0, 0)), ((0,), "running", 1))
        self.assertEqual(run_stirred(SWAP, (("say",), ("say",)), (), 2, (0, 0)), ((0, 0), "stopped", 2))
        self.assertEqual(run_stirred(SWAP, (("say",), ("go", 2), ("stop",)), (), 1, (0, 0)), ((0,), "stopped", 1))
        self.assertEqual(run_stirred(SWAP, (("stop",),), (), 0, (0, 0)), ((), "stopped", 0))

    def test_a_program_of_one_and_of_6000_instructions(self):
        self.assertEqual(run_stirred(SWAP, (("get", 0),), (), 9, (0, 0)), ((), "stopped", 1))
        program = (("get", 0),) + (("wait",),) * 5998 + (("say",),)
        self.assertEqual(run_stirred(SWAP, program, (), 100000, (1, 0)), ((1,), "stopped", 6000))
        gos = tuple(("go", place) for place in range(1, 6000))
        self.assertEqual(run_stirred(SWAP, gos + (("say",),), (), 100000, (1, 0)), ((0,), "stopped", 1))
        self.assertEqual(run_stirred(SWAP, gos + (("go", 0),), (), 100000, (1, 0)), ((), "stopped", 0))
        gos = tuple(("go", place - 1) for place in range(1, 6000))
        self.assertEqual(run_stirred(SWAP, (("zero", 5999),) + gos, (), 70, (1, 0)), ((), "running", 70))

    def test_runs_word_by_word(self):
        chance = random.Random(52)
        for _ in range(1200):
            machine = drawn_machine(chance)
            program = drawn_kept(chance, machine, 24)
            inputs = drawn_row(chance, machine[0], chance.choice((0, 1, 5, 50)))
            memory = drawn_row(chance, machine[0], len(machine[1]))
            most = chance.choice((0, 1, 2, 7, 60))
            with self.subTest(machine=machine, program=program, inputs=inputs, memory=memory, most=most):
                told = run_by_words(machine, program, inputs, most, memory)
                self.assertEqual(run_stirred(machine, program, inputs, most, memory), told)

    def test_answers_are_plain_values(self):
        said, word, ticks = run_stirred(THREE, (("get", 0), ("say",)), (), 9, (1, 2, 3))
        self.assertEqual([type(value) for value in (said, word, ticks, said[0])], [tuple, str, int, int])


class RunStillTests(unittest.TestCase):
    def test_the_example(self):
        self.assertEqual(run_still(2, 1, FOUND, (1,), 9), ((1,), "stopped", 4))

    def test_values_are_0_at_first(self):
        for values in (1, 2, 3, 4):
            program = tuple(step for value in range(values) for step in (("get", value), ("say",)))
            self.assertEqual(run_still(7, values, program, (), 99)[0], (0,) * values)

    def test_each_value_by_itself(self):
        program = tuple(("put", k) if k % 2 else ("add", k // 2) for k in (1, 0, 3, 2, 5, 4, 7, 6)[:6]) + (
            ("get", 0), ("say",), ("get", 1), ("say",), ("plus", 2), ("say",), ("get", 3), ("say",),
        )
        self.assertEqual(run_still(7, 4, program, (), 99), ((1, 3, 1, 0), "stopped", 14))

    def test_deeds_are_modulo_the_prime(self):
        for prime in PRIMES:
            program = (("put", prime - 1), ("add", 0), ("plus", 0), ("say",), ("minus", 0), ("minus", 0), ("say",),
                       ("put", 1), ("take", 0), ("take", 0), ("get", 0), ("say",))
            told = ((2 * prime - 2) % prime, 0, (prime - 3) % prime)
            self.assertEqual(run_still(prime, 1, program, (), 99), (told, "stopped", 12))

    def test_go_and_stop_are_not_counted(self):
        self.assertEqual(run_still(2, 1, (("stop",),), (), 9), ((), "stopped", 0))
        self.assertEqual(run_still(2, 1, (("go", 0),), (), 9), ((), "stopped", 0))
        self.assertEqual(run_still(2, 1, (("go", 2), ("say",), ("say",), ("stop",)), (), 9), ((0,), "stopped", 1))
        self.assertEqual(run_still(2, 1, (("say",), ("go", 0)), (), 9), ((0,) * 9, "running", 9))

    def test_at_most_so_many(self):
        program = (("put", 1), ("say",), ("go", 1))
        self.assertEqual(run_still(2, 1, program, (), 0), ((), "running", 0))
        self.assertEqual(run_still(2, 1, program, (), 1), ((), "running", 1))
        self.assertEqual(run_still(2, 4, program, (), 100000), ((1,) * 99999, "running", 100000))
        self.assertEqual(run_still(2, 1, (("say",),), (), 1), ((0,), "stopped", 1))

    def test_one_and_twenty_instructions(self):
        self.assertEqual(run_still(2, 1, (("say",),), (), 9), ((0,), "stopped", 1))
        self.assertEqual(run_still(3, 1, (("ask",), ("say",)) * 10, (2, 1), 99), ((2, 1) + (0,) * 8, "stopped", 20))

    def test_fifty_inputs(self):
        inputs = tuple(k % 3 for k in range(50))
        said, word, count = run_still(3, 1, (("ask",), ("say",), ("go", 0)), inputs, 102)
        self.assertEqual((said, word, count), (inputs + (0,), "running", 102))

    def test_runs_with_values_by_name(self):
        chance = random.Random(53)
        for _ in range(1500):
            prime, values = chance.choice(PRIMES), chance.randint(1, 4)
            program = drawn_program(chance, prime, values)
            inputs = drawn_row(chance, prime, chance.choice((0, 1, 5, 50)))
            most = chance.choice((0, 1, 2, 7, 60))
            with self.subTest(prime=prime, values=values, program=program, inputs=inputs, most=most):
                told = run_with_values(prime, values, program, inputs, most)
                self.assertEqual(run_still(prime, values, program, inputs, most), told)


class InterfaceTests(unittest.TestCase):
    def test_names_and_places(self):
        for function, names in (
            (run_stirred, ["machine", "program", "inputs", "most", "memory"]),
            (run_still, ["prime", "values", "program", "inputs", "most"]),
        ):
            self.assertEqual(function.__module__, "driftstore.runs")
            self.assertEqual(list(inspect.signature(function).parameters), names)
            self.assertIs(getattr(runs, function.__name__), function)

    def test_arguments_can_be_passed_by_name(self):
        self.assertEqual(run_stirred(memory=(0, 1), most=9, inputs=(), program=(("stop",),), machine=SWAP)[2], 0)
        self.assertEqual(run_still(most=9, inputs=(), program=(("stop",),), values=1, prime=2)[2], 0)


WRONG_INPUTS = [value for value in NO_ROW_PARTS if value != ()] + [
    0, 1, "01", [0, 1], {0: 1}, (0,) * 51, (0,) * 52, (None,) * 51,
]


class WrongRunTests(WrongValueTests, unittest.TestCase):
    def test_all_that_are_instructions_of_a_kept_program(self):
        for machine in (SWAP, THREE):
            memory = (0,) * len(machine[1])
            for many in (1, 2, 6000):
                for deed in right_instructions(kept_numbers(machine, 2), BARE_KEPT) + [("go", many), ("zero", many)]:
                    if deed[0] not in ("go", "zero") or deed[1] <= many:
                        program = (("say",),) * (many - 1) + (deed,)
                        run_stirred(machine, program, (), 3, memory)

    def test_all_that_are_instructions_of_a_program(self):
        for deed in right_instructions(program_numbers(5, 3, 2), BARE):
            run_still(5, 3, (("say",), deed), (), 3)

    def test_wrong_kept_programs(self):
        good = (("ask",), ("put", 1), ("add", 1), ("zero", 0), ("wait",))
        wrong = wrong_instructions(kept_numbers(THREE, len(good)), BARE_KEPT)
        for program, index in wrong_programs(good, 6000, wrong):
            self.assert_raises_exactly(BadProgram, run_stirred, THREE, program, (), 5, (0, 0, 0), index=index)

    def test_wrong_programs(self):
        good = (("ask",), ("put", 1), ("add", 1), ("zero", 0), ("stop",))
        wrong = wrong_instructions(program_numbers(5, 2, len(good)), BARE)
        for program, index in wrong_programs(good, 20, wrong):
            self.assert_raises_exactly(BadProgram, run_still, 5, 2, program, (), 5, index=index)

    def test_numbers_of_sights_and_writes(self):
        machine = (3, ((1, 0), (0, 1)), ((1, 0), (0, 1), (1, 1)), ((1, 0),))
        for word, most in (("get", 0), ("plus", 0), ("minus", 0), ("add", 2), ("take", 2)):
            run_stirred(machine, ((word, most),), (), 3, (0, 0))
            self.assert_raises_exactly(
                BadProgram, run_stirred, machine, (("wait",), (word, most + 1)), (), 3, (0, 0), index=1)

    def test_goes_to_the_end_at_most(self):
        for word in ("go", "zero"):
            for many in (1, 2, 5999, 6000):
                program = (("ask",),) * (many - 1)
                run_stirred(SWAP, program + ((word, many),), (), 3, (0, 0))
                self.assert_raises_exactly(
                    BadProgram, run_stirred, SWAP, program + ((word, many + 1),), (), 3, (0, 0), index=many - 1)

    def test_what_is_wrong_where_no_run_comes_counts(self):
        program = (("stop",), ("put", 2))
        self.assert_raises_exactly(BadProgram, run_stirred, SWAP, program, (), 0, (0, 0), index=1)
        self.assert_raises_exactly(BadProgram, run_still, 2, 1, program, (), 0, index=1)

    def test_wrong_machines(self):
        for at, part, value in ((0, "prime", 4), (1, "stir", ((1, 1), (1, 1))), (2, "writes", ()), (3, "sights", None)):
            machine = put_in(SWAP, at, value)
            self.assert_raises_exactly(BadMachine, run_stirred, machine, FOUND, (), 9, (0, 0), part=part)
        for machine in NO_ROW_PARTS + [list(SWAP), SWAP[:3]]:
            self.assert_raises_exactly(BadMachine, run_stirred, machine, FOUND, (), 9, (0, 0), part="machine")

    def test_wrong_inputs(self):
        for inputs in WRONG_INPUTS:
            self.assert_raises_exactly(BadInputs, run_stirred, SWAP, FOUND, inputs, 9, (0, 0))
            self.assert_raises_exactly(BadInputs, run_still, 2, 1, FOUND, inputs, 9)

    def test_wrong_numbers_in_inputs(self):
        for prime in PRIMES:
            machine = (prime, ((1,),), ((1,),), ((1,),))
            self.assertEqual(run_still(prime, 1, FOUND, (prime - 1, 0), 9)[0], (prime - 1,))
            self.assertEqual(run_stirred(machine, FOUND, (prime - 1, 0), 9, (0,))[0], (prime - 1,))
            for value in NO_ROW_PARTS + [prime, prime + 1]:
                for inputs in ((value,), (0, value, 1), (0,) * 49 + (value,)):
                    self.assert_raises_exactly(BadInputs, run_stirred, machine, FOUND, inputs, 9, (0,))
                    self.assert_raises_exactly(BadInputs, run_still, prime, 1, FOUND, inputs, 9)

    def test_wrong_numbers_of_ticks(self):
        for most in NO_INTEGERS + FAR_INTEGERS:
            self.assert_raises_exactly(BadNumber, run_stirred, SWAP, FOUND, (1,), most, (0, 0))
            self.assert_raises_exactly(BadNumber, run_still, 2, 1, FOUND, (1,), most)

    def test_wrong_memories(self):
        for memory in NO_ROW_PARTS + [0, [0, 0], (0,), (0, 0, 0), (0, 2), (True, 0), ((0, 0),)]:
            self.assert_raises_exactly(BadMemory, run_stirred, SWAP, FOUND, (1,), 9, memory)

    def test_wrong_primes_and_numbers_of_values(self):
        for value in NO_INTEGERS + FAR_INTEGERS + [0, 1, 4, 6, 8, 9]:
            self.assert_raises_exactly(BadNumber, run_still, value, 1, FOUND, (), 9)
        for value in NO_INTEGERS + FAR_INTEGERS + [0, 5, 6]:
            self.assert_raises_exactly(BadNumber, run_still, 2, value, FOUND, (), 9)

    def test_the_leftmost_error_is_raised(self):
        wrong = (
            ((4,), BadMachine), ((("put", 2),), BadProgram), ((2,), BadInputs), (-1, BadNumber), ((2, 2), BadMemory),
        )
        right = (SWAP, FOUND, (1,), 9, (0, 0))
        for first in range(5):
            for more in range(2 ** (4 - first)):
                rest = tuple(wrong[k][0] if more >> (k - first - 1) & 1 else right[k] for k in range(first + 1, 5))
                args = right[:first] + (wrong[first][0],) + rest
                self.assert_raises_exactly(wrong[first][1], run_stirred, *args)

    def test_the_leftmost_error_of_a_still_run_is_raised(self):
        wrong = ((None, BadNumber), (5, BadNumber), ((("put", 2),), BadProgram), ([], BadInputs), (True, BadNumber))
        right = (2, 1, FOUND, (1,), 9)
        for first in range(5):
            for more in range(2 ** (4 - first)):
                rest = tuple(wrong[k][0] if more >> (k - first - 1) & 1 else right[k] for k in range(first + 1, 5))
                args = right[:first] + (wrong[first][0],) + rest
                self.assert_raises_exactly(wrong[first][1], run_still, *args)


if __name__ == "__main__":
    unittest.main()
