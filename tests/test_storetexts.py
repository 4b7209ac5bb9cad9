"""Tests of driftstore.storetexts (points 1, 17 and 18)."""

import inspect
import random
import unittest

from driftstore import storetexts
from driftstore.errors import BadLine, BadMachine, BadProgram, BadString
from driftstore.storetexts import read_machine, read_program, write_machine, write_program
from drawing import PRIMES, drawn_kept, drawn_machine, drawn_program, unit
from wrong_programs import BARE_KEPT, right_instructions, wrong_instructions, wrong_programs
from wrong_values import NO_ROW_PARTS, WrongValueTests, put_in

SWAP = (2, ((0, 1), (1, 0)), ((1, 0),), ((1, 0),))
TEXT = "prime 2\nstir 0 1\nstir 1 0\nwrite 1 0\nsee 1 0"
NUMBERED = {"get": 3, "plus": 3, "minus": 3, "add": 3, "take": 3, "put": 6}


class BadLineTests(WrongValueTests):
    def assert_bad(self, function, text, line, place):
        self.assert_raises_exactly(BadLine, function, text, line=line, place=place)


class WriteMachineTests(WrongValueTests, unittest.TestCase):
    def test_a_line_for_each_part(self):
        self.assertEqual(write_machine(SWAP), TEXT)
        machine = (7, ((1, 2), (3, 4)), ((1, 0), (0, 2), (3, 3)), ((0, 6), (5, 1)))
        self.assertEqual(write_machine(machine), (
            "prime 7\nstir 1 2\nstir 3 4\nwrite 1 0\nwrite 0 2\nwrite 3 3\nsee 0 6\nsee 5 1"))
        self.assertEqual(write_machine((3, ((2,),), ((0,),), ((1,),))), "prime 3\nstir 2\nwrite 0\nsee 1")

    def test_texts_are_read_back_as_they_were_written(self):
        chance = random.Random(171)
        for _ in range(300):
            machine = drawn_machine(chance)
            self.assertEqual(read_machine(write_machine(machine)), machine)
            self.assertEqual(write_machine(read_machine(write_machine(machine))), write_machine(machine))

    def test_what_is_no_machine(self):
        for machine in NO_ROW_PARTS + [list(SWAP), SWAP[:3], TEXT]:
            self.assert_raises_exactly(BadMachine, write_machine, machine, part="machine")
        for at, part, value in ((0, "prime", 4), (1, "stir", ((1, 1), (1, 1))), (2, "writes", ()), (3, "sights", None)):
            self.assert_raises_exactly(BadMachine, write_machine, put_in(SWAP, at, value), part=part)


class ReadMachineTests(BadLineTests, unittest.TestCase):
    def assert_machine_bad(self, text, line, place):
        self.assert_bad(read_machine, text, line, place)

    def test_the_examples(self):
        self.assertEqual(read_machine("prime 3\nstir 2\nwrite 1\nsee 1"), (3, ((2,),), ((1,),), ((1,),)))
        self.assert_machine_bad("prime 4", 1, 2)

    def test_any_number_of_spaces(self):
        self.assertEqual(read_machine("   prime     2  \n stir 0  1 \nstir   1 0\n  write 1   0\nsee   1 0    "), SWAP)

    def test_void_lines_are_passed_over_and_counted(self):
        lines = TEXT.split("\n")
        self.assertEqual(read_machine("\n\n" + "\n   \n\n".join(lines) + "\n \n\n"), SWAP)
        self.assert_machine_bad("\n  \nprime 4", 3, 2)
        self.assert_machine_bad("\nprime 2\n\nstir 0 1\n\n\nstir 1 2", 7, 3)

    def test_other_signs_are_parts_of_words(self):
        self.assert_machine_bad(TEXT.replace("stir 0 1", "stir\t0 1"), 2, 1)
        self.assert_machine_bad(TEXT.replace("stir 0 1", "stir 0\t1"), 2, 2)
        self.assert_machine_bad(TEXT.replace("\n", "\r\n"), 1, 2)
        self.assert_machine_bad("\t", 1, 1)
        self.assert_machine_bad(TEXT + "\n\r", 6, 1)

    def test_numbers(self):
        for word in ("00", "01", "-0", "+1", "-1", "1.0", "1,", "x", "0x1", "1_0", "2", "9", "10", "\u0661", "\u00b2", "one",
                     "9" * 5000, "0" * 5000, "True"):
            for line, place, before in ((2, 2, "stir 0 1"), (2, 3, "stir 0 1"), (3, 2, "stir 1 0"), (4, 3, "write 1 0"),
                                        (5, 2, "see 1 0")):
                words = before.split()
                words[place - 1] = word
                lines = TEXT.split("\n")
                lines[line - 1] = " ".join(words)
                self.assert_machine_bad("\n".join(lines), line, place)

    def test_numbers_modulo_the_prime(self):
        for prime in PRIMES:
            self.assertEqual(read_machine(f"prime {prime}\nstir {prime - 1}\nwrite {prime - 1}\nsee 0"),
                             (prime, ((prime - 1,),), ((prime - 1,),), ((0,),)))
            self.assert_machine_bad(f"prime {prime}\nstir {prime}\nwrite 0\nsee 0", 2, 2)
            self.assert_machine_bad(f"prime {prime}\nstir 1\nwrite {prime}\nsee 0", 3, 2)

    def test_primes(self):
        for word in ("0", "1", "4", "6", "8", "9", "11", "02", "+3", "x", "prime", "2.", "-2", "22"):
            self.assert_machine_bad(f"prime {word}\nstir 1\nwrite 1\nsee 1", 1, 2)
            self.assert_machine_bad(f"prime {word} 3 3\nstir 1\nwrite 1\nsee 1", 1, 2)
        self.assert_machine_bad("prime", 1, 2)
        self.assert_machine_bad("prime\nstir 1", 1, 2)
        self.assert_machine_bad("prime 3 3\nstir 1\nwrite 1\nsee 1", 1, 3)
        self.assert_machine_bad("prime 3 x\nstir 1\nwrite 1\nsee 1", 1, 3)

    def test_lacking_numbers_and_numbers_too_many(self):
        lines = TEXT.split("\n")
        for at in (2, 3, 4):
            for words, place in ((1, 2), (2, 3)):
                short = " ".join(lines[at].split(" ")[:words])
                self.assert_machine_bad("\n".join(put_in(tuple(lines), at, short)), at + 1, place)
            for more in (" 0", " x", " 0 0", "   9  "):
                self.assert_machine_bad("\n".join(put_in(tuple(lines), at, lines[at] + more)), at + 1, 4)
        # The first line of stir tells how many numbers there are.
        self.assert_machine_bad(TEXT.replace("stir 0 1", "stir 0 1 0"), 3, 4)
        self.assert_machine_bad(TEXT.replace("stir 0 1", "stir 0"), 3, 1)
        self.assert_machine_bad(TEXT.replace("stir 0 1", "stir"), 2, 2)
        self.assert_machine_bad("prime 2\nstir 1 0\nstir 5", 3, 2)
        self.assert_machine_bad("prime 2\nstir 1 0\nstir 1 0 7", 3, 4)

    def test_one_to_four_numbers_in_the_first_line_of_stir(self):
        for cells in (1, 2, 3, 4):
            machine = (5, unit(cells), unit(cells)[:1], unit(cells)[-1:])
            self.assertEqual(read_machine(write_machine(machine)), machine)
        self.assert_machine_bad("prime 2\nstir", 2, 2)
        self.assert_machine_bad("prime 2\nstir 1 0 0 0 0", 2, 6)
        self.assert_machine_bad("prime 2\nstir 1 0 0 0 0 0", 2, 6)
        self.assert_machine_bad("prime 2\nstir 1 0 0 2 0 0", 2, 5)

    def test_more_lines_of_stir_than_numbers(self):
        self.assert_machine_bad("prime 2\nstir 1\nstir 1\nwrite 1\nsee 1", 3, 1)
        self.assert_machine_bad(TEXT.replace("write", "stir 0 1\nwrite"), 4, 1)
        self.assert_machine_bad(TEXT.replace("write", "stir 9 9 9\nwrite"), 4, 1)
        four = "prime 3\nstir 1 0 0 0\nstir 0 1 0 0\nstir 0 0 1 0\nstir 0 0 0 1\n"
        self.assert_machine_bad(four + "stir 1 1 1 1\nwrite 0 0 0 0\nsee 0 0 0 0", 6, 1)
        # No word has come behind them yet that would have the first of them be wrong.
        self.assert_machine_bad("prime 2\nstir 1 1\nstir 1 1\nstir 0 1\nwrite 1 0\nsee 1 0", 4, 1)

    def test_fewer_lines_of_stir_than_numbers(self):
        for behind in ("\nwrite 1 0\nsee 1 0", "\nsee 1 0", "\nprime 2", "\nfoo", "", "\n", "\n  \nwrite"):
            self.assert_machine_bad("prime 2\nstir 0 1" + behind, 2, 1)
            self.assert_machine_bad("\nprime 2\n \nstir 1 0 0\nstir 0 1 0" + behind, 4, 1)
        # A wrong number in a line of them stands ahead of what comes behind them.
        self.assert_machine_bad("prime 2\nstir 0 2", 2, 3)
        self.assert_machine_bad("prime 2\nstir 1 0 0\nstir 0 1 3\nfoo", 3, 4)

    def test_stir_that_cannot_be_undone(self):
        for behind in ("\nwrite 1 0\nsee 1 0", "\nsee 1 0", "\nprime 2", "\nfoo", "", "\n", "\nwrite 9"):
            self.assert_machine_bad("prime 2\nstir 1 1\nstir 1 1" + behind, 2, 1)
            self.assert_machine_bad("prime 3\n\n stir 1 2\nstir 2 1" + behind, 3, 1)
            self.assert_machine_bad("prime 7\nstir 0" + behind, 2, 1)

    def test_lines_in_another_order(self):
        lines = TEXT.split("\n")
        self.assert_machine_bad("\n".join(lines[1:] + lines[:1]), 1, 1)
        self.assert_machine_bad("\n".join(lines[:1] + lines[3:]), 2, 1)
        self.assert_machine_bad("\n".join(lines[:3] + lines[4:] + lines[3:4]), 4, 1)
        self.assert_machine_bad("\n".join(lines + lines[3:4]), 6, 1)
        self.assert_machine_bad("\n".join(lines + lines[1:2]), 6, 1)
        self.assert_machine_bad("\n".join(lines[:4] + lines[1:2] + lines[4:]), 5, 1)
        self.assert_machine_bad("\n".join(lines[:1] + lines), 2, 1)
        self.assert_machine_bad("\n".join(lines[:3] + lines[:1]), 4, 1)

    def test_other_words(self):
        for word in ("Prime", "stirs", "sees", "writes", "2", "", "foo", "put", "machine", "SEE"):
            for line, text in enumerate(TEXT.split("\n")):
                if word == "":
                    continue
                lines = TEXT.split("\n")
                lines[line] = word + text[text.index(" "):]
                # The second line of stir is lacking then.
                self.assert_machine_bad("\n".join(lines), 2 if line == 2 else line + 1, 1)
            self.assert_machine_bad(TEXT + "\n" + (word or "x"), 6, 1)

    def test_one_to_four_writes_and_sights(self):
        for writes in (1, 2, 3, 4):
            for sights in (1, 2, 3, 4):
                machine = (3, ((2,),), ((1,),) * writes, ((2,),) * sights)
                self.assertEqual(read_machine(write_machine(machine)), machine)
        self.assert_machine_bad("prime 3\nstir 2" + "\nwrite 1" * 5 + "\nsee 1", 7, 1)
        self.assert_machine_bad("prime 3\nstir 2\nwrite 1" + "\nsee 1" * 5, 8, 1)
        self.assert_machine_bad("prime 3\nstir 2\nwrite 1" + "\nsee 1" * 4 + "\n\nsee 9 9", 9, 1)
        self.assert_machine_bad("prime 3\nstir 2\nsee 1", 3, 1)

    def test_a_line_lacking_at_the_end(self):
        lines = TEXT.split("\n")
        for many, told in ((0, (2, 1)), (1, (2, 1)), (2, (2, 1)), (3, (4, 1)), (4, (5, 1))):
            self.assert_machine_bad("\n".join(lines[:many]), *told)
        self.assert_machine_bad("\n".join(lines[:4]) + "\n", 6, 1)
        self.assert_machine_bad("\n".join(lines[:4]) + "\n\n  \n", 8, 1)
        self.assert_machine_bad("prime 2\n\n", 4, 1)

    def test_a_void_text(self):
        self.assert_machine_bad("", 2, 1)
        self.assert_machine_bad("   ", 2, 1)
        self.assert_machine_bad("\n", 3, 1)
        self.assert_machine_bad("\n \n\n", 5, 1)

    def test_what_is_no_string(self):
        for text in NO_ROW_PARTS + [0, b"prime 2", [TEXT], (TEXT,), TEXT.split("\n")]:
            if not isinstance(text, str):
                self.assert_raises_exactly(BadString, read_machine, text)
                self.assert_raises_exactly(BadString, read_program, text)


ALL_LINES = ["say", "ask", "stop", "wait", "go 0", "zero 4", "put 6", "get 3", "plus 0", "minus 1", "add 2", "take 3"]


class WriteProgramTests(WrongValueTests, unittest.TestCase):
    def test_a_line_for_each_instruction(self):
        program = tuple(
            (words[0],) + tuple(int(word) for word in words[1:]) for words in (line.split() for line in ALL_LINES))
        self.assertEqual(write_program(program), "\n".join(ALL_LINES))
        self.assertEqual(write_program((("add", 0), ("zero", 0))), "add 0\nzero 0")
        self.assertEqual(write_program((("say",),)), "say")

    def test_texts_are_read_back_as_they_were_written(self):
        chance = random.Random(181)
        for _ in range(300):
            for program in (drawn_program(chance, 7, 4), drawn_kept(chance, drawn_machine(chance), 60)):
                self.assertEqual(read_program(write_program(program)), program)

    def test_all_that_are_instructions(self):
        for many in (1, 2, 6000):
            numbers = {**NUMBERED, "go": min(many, 9), "zero": min(many, 9)}
            for deed in right_instructions(numbers, BARE_KEPT) + [("go", many), ("zero", many)]:
                program = (("say",),) * (many - 1) + (deed,)
                if many < 6000 or deed[0] in ("go", "put"):
                    self.assertEqual(read_program(write_program(program)), program)

    def test_what_is_no_program(self):
        good = (("ask",), ("put", 1), ("wait",), ("add", 1), ("zero", 0))
        wrong = wrong_instructions({**NUMBERED, "go": len(good), "zero": len(good)}, BARE_KEPT)
        for program, index in wrong_programs(good, 6000, wrong):
            self.assert_raises_exactly(BadProgram, write_program, program, index=index)
        self.assertEqual(len(write_program((("say",),) * 6000).split("\n")), 6000)
        self.assert_raises_exactly(BadProgram, write_program, (("say",),) * 6001, index=None)


class ReadProgramTests(BadLineTests, unittest.TestCase):
    def assert_program_bad(self, text, line, place):
        self.assert_bad(read_program, text, line, place)

    def test_each_word_with_and_without_its_number(self):
        for line in ALL_LINES:
            word, number = (line + " ").split(" ")[:2]
            text = "say\nsay\n" + line + "\nsay"
            told = (word,) + ((int(number),) if number else ())
            self.assertEqual(read_program(text), (("say",), ("say",), told, ("say",)))
            if number:
                self.assert_program_bad("say\n\n" + word, 3, 2)
                self.assert_program_bad("say\n\n" + line + " 0", 3, 3)
                self.assert_program_bad("say\n\n" + line + " x", 3, 3)
                self.assert_program_bad("say\n\n" + word + " x 0", 3, 2)
            else:
                self.assert_program_bad("say\n\n" + word + " 0", 3, 2)
                self.assert_program_bad("say\n\n" + word + " x 0", 3, 2)

    def test_the_most_that_numbers_may_be(self):
        for word, most in NUMBERED.items():
            self.assertEqual(read_program(f"{word} {most}"), ((word, most),))
            self.assert_program_bad(f"{word} {most + 1}", 1, 2)
            self.assert_program_bad(f"say\n {word}  {most + 1}", 2, 2)

    def test_numbers(self):
        for word in ("00", "01", "-0", "+1", "-1", "1.0", "x", "0x1", "1_0", "10", "\u0661", "\u00b2", "9" * 5000,
                     "0" * 5000, "6000000"):
            for first in ("get", "put", "take"):
                self.assert_program_bad(f"say\n{first} {word}", 2, 2)
            for first in ("zero", "go"):
                self.assert_program_bad(f"say\n{first} {word}\nfoo", *((3, 1) if word == "10" else (2, 2)))

    def test_other_words(self):
        for word in ("see", "Get", "jump", "say:", "0", "prime", "sayy", "waits", "\t", "say\t", "say\r"):
            self.assert_program_bad(word, 1, 1)
            self.assert_program_bad(f"\nsay\n  {word} 0", 3, 1)

    def test_any_number_of_spaces_and_void_lines(self):
        self.assertEqual(read_program("\n  say  \n\n   zero     2 \n \n"), (("say",), ("zero", 2)))

    def test_texts_without_words(self):
        for text, line in (("", 2), ("  ", 2), ("\n", 3), ("\n\n \n", 5)):
            self.assert_program_bad(text, line, 1)

    def test_goes_beyond_the_lines_with_words(self):
        for word in ("zero", "go"):
            self.assertEqual(read_program(f"say\n\n\n{word} 2"), (("say",), (word, 2)))
            self.assert_program_bad(f"say\n\n\n{word} 3", 4, 2)
            self.assert_program_bad(f"{word} 2\n\n", 1, 2)
            # The first of them, and only behind the last line.
            self.assert_program_bad(f"say\n{word} 4\n{word} 5", 2, 2)
            self.assert_program_bad(f"say\n{word} 4\nget 4", 3, 2)
            self.assert_program_bad(f"say\n{word} 6000\nfoo", 3, 1)
            self.assert_program_bad(f"say\n{word} 6000\nsay", 2, 2)
            # A number that no program can go to cannot stand at once.
            self.assert_program_bad(f"say\n{word} 6001\nfoo", 2, 2)

    def test_6000_lines_with_words(self):
        self.assertEqual(read_program("say\n\n" * 5999 + "go 6000"), (("say",),) * 5999 + (("go", 6000),))
        self.assert_program_bad("say\n" * 5999 + "go 6001", 6000, 2)
        self.assert_program_bad("say\n" * 6000 + "go 6000", 6001, 1)

    def test_the_6001st_line_with_words_comes_ahead_of_all_else(self):
        self.assert_program_bad("say\n" * 6001, 6001, 1)
        self.assert_program_bad("\n" + "say\n" * 6000 + "\n  \nsay\nsay", 6004, 1)
        self.assert_program_bad("foo 3\nput 9\ngo\n" + "say\n" * 6000, 6001, 1)
        self.assert_program_bad("foo\n" + "say\n" * 5999, 1, 1)

    def test_the_first_word_that_cannot_stand(self):
        self.assert_program_bad("say\nput 7\nfoo", 2, 2)
        self.assert_program_bad("say 1 1\nfoo", 1, 2)
        self.assert_program_bad("go 3\nput", 2, 2)


class InterfaceTests(unittest.TestCase):
    def test_names_and_places(self):
        for function, names in (
            (write_machine, ["machine"]), (read_machine, ["text"]), (write_program, ["program"]), (read_program, ["text"]),
        ):
            self.assertEqual(function.__module__, "driftstore.storetexts")
            self.assertEqual(list(inspect.signature(function).parameters), names)
            self.assertIs(getattr(storetexts, function.__name__), function)

    def test_arguments_can_be_passed_by_name(self):
        self.assertEqual(read_machine(text=write_machine(machine=SWAP)), SWAP)
        self.assertEqual(read_program(text=write_program(program=(("say",),))), (("say",),))

    def test_answers_are_plain_values(self):
        machine = read_machine(TEXT)
        self.assertEqual({type(part) for part in machine}, {int, tuple})
        self.assertEqual({type(row) for part in machine[1:] for row in part}, {tuple})
        self.assertEqual({type(deed) for deed in read_program("say\nput 1")}, {tuple})


if __name__ == "__main__":
    unittest.main()
