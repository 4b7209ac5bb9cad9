"""Tests of driftstore.desks (points 1 and 20)."""

import inspect
import random
import unittest

from driftstore.benches import Store
from driftstore.desks import Desk
from driftstore.errors import BadLine, BadProgram, BadString, TooMany
from driftstore.machines import turns
from driftstore.parts import keeps, lost, reached, unseen
from driftstore.storetexts import read_program, write_machine, write_program
from driftstore.walks import carries
from drawing import drawn_machine, unit
from test_writing import LONG
from wrong_values import NO_ROW_PARTS, WrongValueTests

TEXT = "prime 2\nstir 0 1\nstir 1 0\nwrite 1 0\nsee 1 0"
MANY = (7, ((1, 2), (3, 4)), ((1, 0), (0, 2), (3, 3)), ((0, 1), (5, 1)))
PARTED = (2, ((1, 0, 0), (0, 0, 1), (0, 1, 0)), ((1, 1, 0),), ((0, 1, 1),))
DEAF = (2, ((1,),), ((0,),), ((1,),))
NUMBER_WORDS = ("see", "join", "part", "add", "take", "put")
BARE_WORDS = ("wait", "tick", "hand", "held", "keeps", "round", "reached", "unseen", "lost", "kept")
NO_STRINGS = [value for value in NO_ROW_PARTS if not isinstance(value, str)] + [0, b"tick"]


def desk_of(machine, program=None):
    desk = Desk()
    desk.take_machine(write_machine(machine))
    if program is not None:
        desk.take_program(program)
    return desk


def rows_told(rows):
    return "; ".join(" ".join(str(number) for number in row) for row in rows) if rows else "-"


class DeskTests(unittest.TestCase):
    def assert_says(self, desk, *pairs):
        for line, answer in pairs:
            self.assertEqual(desk.say(line), answer, line)

    def test_the_example(self):
        desk = Desk()
        desk.take_machine(TEXT)
        self.assertEqual(desk.take_program("ask\nadd 0\nget 0\nsay"), "taken")
        self.assert_says(desk, ("keeps", "2"), ("round", "2"), ("reached", "1 0; 0 1"), ("lost", "-"),
                         ("put 2", "no such number"), ("sing", "what"))

    def test_each_deed(self):
        desk = desk_of((7, unit(2), ((1, 0), (0, 2)), ((1, 0), (0, 1), (1, 1))))
        self.assert_says(desk, ("put 3", "done"), ("hand", "3"), ("add 0", "done"), ("held", "3 0"), ("take 1", "done"),
                         ("held", "3 1"), ("see 2", "4"), ("hand", "4"), ("join 0", "done"), ("hand", "0"),
                         ("part 1", "done"), ("hand", "6"), ("wait", "done"), ("tick", "7"), ("held", "3 1"))

    def test_deeds_let_a_tick_go_by_and_questions_do_not(self):
        desk = desk_of(MANY, "say")
        for count, line in enumerate(("put 1", "add 0", "take 2", "see 1", "join 1", "part 0", "wait")):
            desk.say(line)
            for question in ("tick", "hand", "held", "keeps", "round", "reached", "unseen", "lost", "kept", "sing", "see 9"):
                desk.say(question)
            self.assertEqual(desk.say("tick"), str(count + 1))

    def test_a_desk_does_what_a_store_does(self):
        chance = random.Random(201)
        for _ in range(80):
            machine = drawn_machine(chance)
            desk, store = desk_of(machine), Store(machine)
            for _ in range(25):
                word, number = chance.choice(NUMBER_WORDS + ("wait",)), chance.randrange(machine[0])
                most = {"put": machine[0], "add": len(machine[2]), "take": len(machine[2])}.get(word, len(machine[3]))
                if word == "wait":
                    store.wait()
                    self.assert_says(desk, ("wait", "done"))
                elif number >= most:
                    self.assert_says(desk, (f"{word} {number}", "no such number"))
                elif word == "see":
                    self.assert_says(desk, (f"see {number}", str(store.see(number))))
                else:
                    function = {"join": store.join, "part": store.join, "put": store.put}.get(word, store.write)
                    function(*(number, True) if word in ("part", "take") else (number,))
                    self.assert_says(desk, (f"{word} {number}", "done"))
                held = " ".join(str(number) for number in store.held)
                self.assert_says(desk, ("tick", str(store.tick)), ("hand", str(store.own)), ("held", held))

    def test_what_the_machine_is(self):
        chance = random.Random(202)
        for machine in [MANY, PARTED, DEAF] + [drawn_machine(chance) for _ in range(150)]:
            self.assert_says(
                desk_of(machine), ("keeps", str(keeps(machine))), ("round", str(turns(machine))),
                ("reached", rows_told(reached(machine))), ("unseen", rows_told(unseen(machine))),
                ("lost", rows_told(lost(machine))))
        self.assert_says(desk_of(PARTED), ("reached", "1 0 1; 0 1 1"), ("unseen", "1 0 0; 0 1 1"), ("lost", "0 1 1"))
        self.assert_says(desk_of(DEAF), ("reached", "-"), ("unseen", "-"), ("lost", "-"), ("keeps", "0"), ("round", "1"))

    def test_kept(self):
        desk = desk_of((2, ((0, 1), (1, 0)), ((1, 0),), ((1, 0),)))
        self.assert_says(desk, ("kept", "no program"))
        program = "ask\nadd 0\nget 3\nplus 0\nsay\nzero 0"
        self.assertEqual(desk.take_program(program), "taken")
        answer = desk.say("kept")
        self.assertNotIn("\n", answer)
        found = read_program(answer.replace("; ", "\n"))
        self.assertEqual(write_program(found).replace("\n", "; "), answer)
        self.assertTrue(carries((2, ((0, 1), (1, 0)), ((1, 0),), ((1, 0),)), 4, read_program(program), found))
        self.assertEqual(desk.take_program("get 0\nadd 1\nadd 2"), "taken")
        self.assert_says(desk, ("kept", "no way"))
        self.assertEqual(desk.take_program("stop"), "taken")
        self.assert_says(desk, ("kept", "stop"))
        self.assertEqual(desk.take_program("say"), "taken")
        self.assert_says(desk, ("kept", "say"))
        self.assert_says(desk_of(DEAF, "ask\nsay"), ("kept", "ask; say"))
        self.assert_says(desk_of(DEAF, "ask\nadd 0"), ("kept", "no way"))

    def test_too_many_goes_through(self):
        zeros = "\n".join(f"zero {place}" for place in (0, 1, 2, 3))
        desk = desk_of(LONG, "ask\nadd 0\nget 0\nsay\n" + zeros + "\nget 1\nadd 2\nget 3\nsay\nzero 8\nzero 9\nzero 10")
        with self.assertRaises(TooMany) as caught:
            desk.say("kept")
        self.assertEqual(caught.exception.most, 6000)
        self.assert_says(desk, ("tick", "0"), ("keeps", "4"))

    def test_any_number_of_spaces(self):
        desk = desk_of(MANY)
        self.assert_says(desk, ("  put   6 ", "done"), (" hand", "6"), ("hand   ", "6"), ("   wait  ", "done"),
                         ("tick  0", "what"))

    def test_right_wrong_lacking_and_needless_words(self):
        mosts = {"see": 1, "join": 1, "part": 1, "add": 2, "take": 2, "put": 6}
        for word, most in mosts.items():
            desk = desk_of(MANY)
            for number in range(most + 1):
                self.assertNotIn(desk.say(f"{word} {number}"), ("what", "no such number"))
            tick = desk.say("tick")
            for number in (most + 1, most + 2, 7, 10, 100, "00", "01", "-0", "-1", "+1", "x", "1.", "0x0", "see", "tick",
                           "\u0661", "\u00b2", "9" * 5000, "0" * 5000, "1_0", "\t", "0\n", "None", "()", "0,"):
                self.assert_says(desk, (f"{word} {number}", "no such number"))
            for line in (word, word + " ", f"{word} 0 0", f"{word} 0 x", f"{word} x x", word + "0", word.upper() + " 0",
                         f"{word},0", f"{word}\t0", f"0 {word}", f"{word}s 0"):
                self.assert_says(desk, (line, "what"))
            self.assert_says(desk, ("tick", tick))
        for word in BARE_WORDS:
            desk = desk_of(MANY, "say")
            self.assertNotIn(desk.say(word), ("what", "no such number", "no machine", "no program"))
            tick = desk.say("tick")
            for line in (word + " 0", word + " x", word + " " + word, word + "s", word.upper(), word + "\n", word + "."):
                self.assert_says(desk, (line, "what"))
            self.assert_says(desk, ("tick", tick))

    def test_other_values(self):
        for desk in (Desk(), desk_of(MANY)):
            for line in NO_STRINGS + ["", " ", "   ", "\n", "sing", "get 0", "plus 0", "say", "program say", "7", "prime 2"]:
                self.assert_says(desk, (line, "what"))

    def test_without_a_machine(self):
        desk = Desk()
        for word in NUMBER_WORDS:
            self.assert_says(desk, (word + " 0", "no machine"), (word + " 9", "no machine"), (word + " x", "no machine"),
                             (word, "what"), (word + " 0 0", "what"))
        for word in BARE_WORDS:
            self.assert_says(desk, (word, "no machine"), (word + " 0", "what"))
        self.assertEqual(desk.take_program("say"), "no machine")
        self.assertEqual(desk.take_program("put 6\nwait"), "no machine")
        self.assert_says(desk, ("kept", "no machine"))
        desk.take_machine(TEXT)
        self.assert_says(desk, ("kept", "no program"), ("tick", "0"))

    def test_a_machine_taken_anew(self):
        desk = desk_of(MANY, "ask\nsay")
        self.assert_says(desk, ("put 5", "done"), ("add 0", "done"), ("tick", "2"), ("hand", "5"))
        desk.take_machine(TEXT)
        self.assert_says(desk, ("tick", "0"), ("hand", "0"), ("held", "0 0"), ("kept", "no program"), ("keeps", "2"),
                         ("put 5", "no such number"))
        desk.say("put 1")
        desk.take_machine(TEXT)
        self.assert_says(desk, ("tick", "0"), ("hand", "0"))

    def test_a_program_does_not_touch_the_machine(self):
        desk = desk_of(MANY)
        desk.say("put 5")
        self.assertEqual(desk.take_program("put 6\nadd 3\nsay"), "taken")
        self.assert_says(desk, ("tick", "1"), ("hand", "5"))

    def test_desks_are_apart(self):
        one, other = desk_of(MANY), desk_of(MANY)
        one.say("put 3")
        self.assert_says(other, ("hand", "0"))
        self.assert_says(Desk(), ("hand", "no machine"))

    def test_the_interface(self):
        for name, names in (("take_machine", ["text"]), ("take_program", ["text"]), ("say", ["line"])):
            self.assertEqual(list(inspect.signature(vars(Desk)[name]).parameters), ["self"] + names)
        self.assertEqual(list(inspect.signature(Desk).parameters), [])
        self.assertEqual(Desk.__module__, "driftstore.desks")


class WrongInputTests(WrongValueTests, unittest.TestCase):
    def test_what_is_no_string(self):
        for desk in (Desk(), desk_of(MANY)):
            for text in NO_STRINGS:
                self.assert_raises_exactly(BadString, desk.take_machine, text)
                self.assert_raises_exactly(BadString, desk.take_program, text)

    def test_lines_that_cannot_stand(self):
        desk = desk_of(MANY, "ask")
        desk.say("put 4")
        self.assert_raises_exactly(BadLine, desk.take_machine, "", line=2, place=1)
        self.assert_raises_exactly(BadLine, desk.take_machine, TEXT + "\nsee 1 2", line=6, place=3)
        self.assert_raises_exactly(BadLine, desk.take_program, "", line=2, place=1)
        self.assert_raises_exactly(BadLine, desk.take_program, "say\nget 4", line=2, place=2)
        self.assert_raises_exactly(BadLine, desk.take_program, "say\ngo 3", line=2, place=2)
        # What there was stays.
        self.assertEqual([desk.say("hand"), desk.say("kept"), desk.say("tick")], ["4", "ask", "1"])
        self.assert_raises_exactly(BadLine, Desk().take_program, "sing", line=1, place=1)

    def test_what_is_no_program_of_the_machine(self):
        desk = desk_of((2, unit(1), unit(1), unit(1)), "ask")
        for text, index in (("say\nput 2", 1), ("wait", 0), ("say\nsay\nwait\nput 5", 2), ("say\n" * 21, None),
                            ("put 6\n" * 6000, None)):
            self.assert_raises_exactly(BadProgram, desk.take_program, text, index=index)
            self.assertEqual(desk.say("kept"), "ask")
        self.assertEqual(desk.take_program("say\n" * 20), "taken")
        self.assertEqual(desk.take_program("put 1\nget 3\nadd 3\ngo 4"), "taken")


if __name__ == "__main__":
    unittest.main()
