"""Tests of driftstore.walks (points 1 and 8)."""

import inspect
import random
import unittest

from driftstore import walks
from driftstore.errors import BadMachine, BadNumber, BadProgram
from driftstore.walks import carries, faults
from drawing import drawn_kept, drawn_machine, drawn_program, unit
from trying_out import faults_tried_out
from wrong_programs import (
    BARE, BARE_KEPT, kept_numbers, program_numbers, right_instructions, wrong_instructions, wrong_programs,
)
from wrong_values import FAR_INTEGERS, NO_INTEGERS, NO_ROW_PARTS, WrongValueTests, put_in

SWAP = (2, ((0, 1), (1, 0)), ((1, 0),), ((1, 0),))
ONE = (5, ((1,),), ((1,),), ((1,),))
FOUND = (("ask",), ("add", 0), ("get", 0), ("say",))


def near_kept(chance, machine, values, program):
    """A kept program that goes about as a program does: its words, with other numbers and waits at times."""
    starts, found = [], []
    for deed in program:
        if chance.random() < 0.15:
            found.append(("wait",))
        starts.append(len(found))
        word = deed[0]
        if chance.random() < 0.06:
            word = chance.choice(("say", "wait", "ask"))
            deed = (word,)
        if word in ("get", "plus", "minus"):
            deed = (word, deed[1] % len(machine[3]))
        if word in ("add", "take"):
            deed = (word, deed[1] % len(machine[2]))
        found.append(deed)
    starts.append(len(found))
    return tuple((deed[0], starts[deed[1]]) if deed[0] in ("go", "zero") else deed for deed in found)


def lively(chance, prime, values):
    """A program that asks for its values at first, and then says or tests what it does with them."""
    asked = tuple(deed for value in range(values) for deed in (("ask",), ("add", value)))
    rest = drawn_program(chance, prime, values, 7)
    moved = tuple((deed[0], deed[1] + len(asked)) if deed[0] in ("go", "zero") else deed for deed in rest)
    return asked + moved + (("plus", 0), chance.choice((("say",), ("zero", 0), ("zero", len(asked)))))


class FaultsTests(unittest.TestCase):
    def assert_faults(self, told, machine, values, program, kept):
        self.assertEqual(faults(machine, values, program, kept), told)
        self.assertIs(carries(machine, values, program, kept), told == ())

    def test_the_example(self):
        self.assert_faults(((3, 3, "hand"),), SWAP, 1, FOUND, FOUND)
        self.assert_faults((), SWAP, 1, FOUND, FOUND[:2] + (("wait",),) + FOUND[2:])

    def test_the_same_program_on_a_still_machine(self):
        self.assert_faults((), ONE, 1, FOUND, FOUND)
        self.assert_faults((), (3, unit(4), unit(4), unit(4)), 4, FOUND + (("add", 3), ("go", 0)),
                           FOUND + (("add", 3), ("go", 0)))

    def test_a_place_of_none_is_minus_1(self):
        self.assert_faults(((-1, 0, "unlike"),), ONE, 1, (("stop",),), (("say",),))
        self.assert_faults(((0, -1, "unlike"),), ONE, 1, (("ask",),), (("stop",),))
        self.assert_faults(((-1, 2, "unlike"),), ONE, 1, (("say",),), (("say",), ("wait",), ("zero", 0)))
        self.assert_faults(((1, -1, "unlike"),), ONE, 1, (("say",), ("say",)), (("say",), ("wait",), ("go", 1)))

    def test_programs_that_come_to_no_mark_any_more(self):
        ends = ((("stop",),), (("go", 0),), (("put", 1),), (("put", 1), ("go", 0)), (("go", 1), ("go", 0)))
        for program in ends:
            for kept in ends + ((("wait",),), (("get", 0), ("wait",), ("add", 0), ("go", 1))):
                self.assert_faults((), ONE, 1, program, kept)
        self.assert_faults((), ONE, 1, (("say",),), (("say",), ("wait",), ("go", 1)))
        self.assert_faults((), ONE, 1, (("ask",), ("add", 0), ("go", 1)), (("ask",), ("stop",)))

    def test_unlike_instructions(self):
        marks = (("say",), ("ask",), ("zero", 1))
        for one in marks:
            for other in marks:
                told = () if one[0] == other[0] else ((0, 0, "unlike"),)
                self.assert_faults(told, ONE, 1, (one,), (other,))

    def test_zeros_are_the_same_wherever_they_go(self):
        program = (("zero", 2), ("say",), ("ask",))
        kept = (("wait",), ("zero", 4), ("say",), ("go", 5), ("wait",), ("ask",))
        self.assert_faults((), ONE, 1, program, kept)

    def test_walks_do_not_go_on_behind_unlike_instructions(self):
        self.assert_faults(((0, 0, "unlike"),), ONE, 1, (("ask",), ("say",)), (("say",), ("ask",)))
        program = (("say",), ("ask",), ("zero", 0))
        self.assert_faults(((1, 1, "unlike"),), ONE, 1, program, (("say",),) * 3)

    def test_walks_go_on_behind_unlike_hands(self):
        program = (("say",), ("put", 1), ("say",), ("ask",), ("say",), ("say",), ("ask",))
        kept = (("put", 1), ("say",), ("say",), ("ask",), ("say",), ("put", 0), ("say",), ("say",))
        self.assert_faults(((0, 1, "hand"), (5, 6, "hand"), (6, 7, "unlike")), ONE, 1, program, kept)
        # Behind the ask the hands are alike again, whatever they were ahead of it.
        self.assert_faults(((0, 1, "hand"),), ONE, 1, program[:5], kept[:5])
        self.assert_faults(((1, 0, "hand"), (2, 2, "hand")), ONE, 1, (("put", 3), ("zero", 2), ("say",)),
                           (("zero", 2), ("put", 0), ("say",)))

    def test_hands_at_an_ask_do_not_matter(self):
        self.assert_faults((), ONE, 1, (("put", 1), ("ask",), ("say",)), (("put", 2), ("ask",), ("say",)))

    def test_hands_at_a_zero_matter(self):
        self.assert_faults(((1, 1, "hand"),), ONE, 1, (("put", 1), ("zero", 2)), (("put", 2), ("zero", 2)))

    def test_zeros_go_either_way_whatever_the_hand_is(self):
        program = (("zero", 3), ("put", 1), ("say",), ("put", 2), ("ask",))
        self.assert_faults(((2, 2, "hand"),), ONE, 1, program, put_in(program, 1, ("put", 3)))
        self.assert_faults(((4, 4, "unlike"),), ONE, 1, program, put_in(program, 4, ("say",)))
        program = (("put", 1),) + (("zero", 4), ("put", 1), ("say",), ("put", 2), ("say",))
        self.assert_faults(((5, 5, "hand"),), ONE, 1, program, put_in(program, 4, ("put", 3)))

    def test_the_same_way_in_both(self):
        # Walks that took unlike ways would come to says with unlike hands.
        program = (("ask",), ("zero", 4), ("put", 1), ("say",), ("put", 2), ("say",))
        self.assert_faults((), ONE, 1, program, program)

    def test_all_inputs_count(self):
        kept = (("ask",), ("put", 0), ("say",))
        self.assert_faults(((1, 2, "hand"),), ONE, 1, (("ask",), ("say",)), kept)
        # The sum of five equal inputs is 0, that of five unlike ones isn't.
        program = (("ask",), ("add", 0)) * 5 + (("get", 0), ("say",))
        kept = (("ask",), ("take", 0)) * 5 + (("get", 0), ("say",))
        self.assert_faults(((11, 11, "hand"),), ONE, 1, program, kept)
        program = (("ask",),) + (("add", 0),) * 5 + (("get", 0), ("say",))
        kept = (("ask",), ("get", 0), ("say",))
        self.assert_faults((), ONE, 1, program, kept)

    def test_hands_that_are_unlike_by_what_was_put_alone(self):
        program = (("ask",), ("add", 0), ("put", 2), ("plus", 0), ("say",))
        self.assert_faults(((4, 4, "hand"),), ONE, 1, program, put_in(program, 2, ("put", 1)))
        self.assert_faults((), ONE, 1, program, program)

    def test_what_comes_about_in_a_later_turn_of_a_loop(self):
        machine = (3, unit(2), unit(2), unit(2))
        start = (("put", 1), ("add", 0), ("get", 1), ("say",))
        program = start + (("ask",), ("zero", 1), ("get", 0), ("add", 1), ("go", 0))
        self.assert_faults(((3, 3, "hand"),), machine, 2, program, put_in(program, 2, ("put", 0)))
        # Without the loop both values are 0 there.
        self.assert_faults((), machine, 2, start, put_in(start, 2, ("put", 0)))

    def test_places_of_both_programs_are_paired_as_walks_come_to_them(self):
        program = (("say",), ("go", 0))
        kept = (("say",), ("wait",), ("say",), ("put", 1), ("say",), ("go", 0))
        self.assert_faults(((0, 0, "hand"), (0, 2, "hand"), (0, 4, "hand")), ONE, 1, program, kept)

    def test_places_ascend_as_numbers(self):
        kept = (("put", 1),) + (("say",),) * 11 + (("go", 1),)
        told = tuple((0, place, "hand") for place in range(1, 12))
        self.assert_faults(told, ONE, 1, (("say",), ("go", 0)), kept)
        program = (("zero", 3), ("say",), ("go", 4), ("ask",), ("zero", 5), ("ask",))
        kept = (("zero", 13),) + (("wait",),) * 8 + (("put", 1), ("say",), ("zero", 12), ("say",), ("say",))
        told = ((1, 10, "hand"), (3, 13, "unlike"), (4, 11, "hand"), (5, 12, "unlike"))
        self.assert_faults(told, ONE, 1, program, kept)

    def test_kept_programs_of_6000_instructions(self):
        machine = (2, ((0, 1), (1, 1)), ((1, 0),), ((1, 0),))
        for more, told in ((0, ()), (1, ()), (2, ((3, 5999, "hand"),))):
            late = (("wait",),) * (5996 - more) + (("get", 0),) + (("wait",),) * more
            kept = FOUND[:2] + late + (("say",),)
            self.assertEqual(len(kept), 6000)
            self.assert_faults(told, machine, 1, FOUND, kept)
        loop = (("ask",),) * 5999 + (("go", 0),)
        self.assert_faults((), machine, 1, (("ask",),) * 7 + (("go", 0),), loop)
        told = ((1, 5999, "unlike"),)
        self.assert_faults(told, machine, 1, (("ask",),) * 2 + (("go", 0),), loop[:5999] + (("say",),))
        zeros = tuple(("zero", place + 3000) for place in range(3000)) + (("wait",),) * 2999 + (("say",),)
        self.assert_faults(((0, 5999, "unlike"),), machine, 1, (("zero", 2), ("go", 0), ("say",)), zeros)

    def test_walks_tried_out_with_all_inputs(self):
        chance = random.Random(81)
        found = []
        for _ in range(700):
            machine = drawn_machine(chance, (2, 2, 3), 2)
            values = chance.randint(1, 2)
            program = drawn_program(chance, machine[0], values, 9)
            if chance.random() < 0.6:
                program = lively(chance, machine[0], values)
            kept = near_kept(chance, machine, values, program)
            with self.subTest(machine=machine, values=values, program=program, kept=kept):
                told = faults_tried_out(machine, values, program, kept)
                found += [fault[2] for fault in told] or [None]
                self.assert_faults(told, machine, values, program, kept)
        for word in ("unlike", "hand", None):
            self.assertGreater(found.count(word), 60)

    def test_walks_of_programs_that_have_nothing_in_common(self):
        chance = random.Random(82)
        for _ in range(300):
            machine = drawn_machine(chance, (2, 3), 2)
            program = drawn_program(chance, machine[0], 2, 6)
            kept = drawn_kept(chance, machine, 12)
            with self.subTest(machine=machine, program=program, kept=kept):
                self.assert_faults(faults_tried_out(machine, 2, program, kept), machine, 2, program, kept)


class InterfaceTests(unittest.TestCase):
    def test_names_and_places(self):
        for function in (faults, carries):
            self.assertEqual(function.__module__, "driftstore.walks")
            self.assertEqual(list(inspect.signature(function).parameters), ["machine", "values", "program", "kept"])
            self.assertIs(getattr(walks, function.__name__), function)
            function(kept=FOUND, program=FOUND, values=1, machine=SWAP)


class WrongWalkTests(WrongValueTests, unittest.TestCase):
    def assert_wrong(self, error, *args, **fields):
        for function in (faults, carries):
            self.assert_raises_exactly(error, function, *args, **fields)

    def test_all_that_are_instructions(self):
        machine = (3, unit(2), unit(2), ((1, 1),))
        for deed in right_instructions(program_numbers(3, 3, 2), BARE):
            self.assertIs(carries(machine, 3, (("ask",), deed), (("say",),)), False)
        for deed in right_instructions(kept_numbers(machine, 2), BARE_KEPT):
            self.assertIs(carries(machine, 3, (("ask",),), (("say",), deed)), False)

    def test_wrong_programs(self):
        good = (("ask",), ("put", 1), ("add", 1), ("zero", 0))
        for program, index in wrong_programs(good, 20, wrong_instructions(program_numbers(2, 2, len(good)), BARE)):
            self.assert_wrong(BadProgram, SWAP, 2, program, FOUND, index=index)

    def test_wrong_kept_programs(self):
        good = (("ask",), ("put", 1), ("wait",), ("add", 0), ("zero", 0))
        for kept, index in wrong_programs(good, 6000, wrong_instructions(kept_numbers(SWAP, len(good)), BARE_KEPT)):
            self.assert_wrong(BadProgram, SWAP, 1, FOUND, kept, index=index)

    def test_values_of_the_program_and_sights_and_writes_of_the_machine(self):
        machine = (2, unit(2), unit(2) + ((1, 1),), ((1, 0),))
        program, kept = (("add", 3), ("get", 3)), (("add", 2), ("get", 0))
        self.assertIs(carries(machine, 4, program, kept), True)
        self.assert_wrong(BadProgram, machine, 3, program, kept, index=0)
        self.assert_wrong(BadProgram, machine, 4, program, (("add", 2), ("get", 1)), index=1)
        self.assert_wrong(BadProgram, machine, 4, program, (("add", 3), ("get", 0)), index=0)

    def test_wrong_machines(self):
        for machine in NO_ROW_PARTS + [list(SWAP), SWAP[:3]]:
            self.assert_wrong(BadMachine, machine, 1, FOUND, FOUND, part="machine")
        for at, part, value in ((0, "prime", 4), (1, "stir", ((1, 1), (1, 1))), (2, "writes", ()), (3, "sights", None)):
            self.assert_wrong(BadMachine, put_in(SWAP, at, value), 1, FOUND, FOUND, part=part)

    def test_wrong_numbers_of_values(self):
        for value in NO_INTEGERS + FAR_INTEGERS + [0, 5, 6]:
            self.assert_wrong(BadNumber, SWAP, value, FOUND, FOUND)

    def test_the_leftmost_error_is_raised(self):
        wrong = ((None, BadMachine), (0, BadNumber), ((("wait",),), BadProgram), ((("see", 0),), BadProgram))
        right = (SWAP, 1, FOUND, FOUND)
        for first in range(4):
            for more in range(2 ** (3 - first)):
                rest = tuple(wrong[k][0] if more >> (k - first - 1) & 1 else right[k] for k in range(first + 1, 4))
                self.assert_wrong(wrong[first][1], *right[:first], wrong[first][0], *rest)
        self.assert_wrong(BadProgram, SWAP, 1, FOUND + (("put", 2),), (("put", 2),), index=4)
        self.assert_wrong(BadProgram, SWAP, 1, FOUND + (("put", 2),), (), index=4)
        self.assert_wrong(BadProgram, SWAP, 1, (), (("put", 2),), index=None)


if __name__ == "__main__":
    unittest.main()
