"""Tests of driftstore.sessions (points 1 and 21)."""

import inspect
import random
import unittest

from driftstore import sessions
from driftstore.desks import Desk
from driftstore.errors import BadLine, BadProgram, BadString, TooMany
from driftstore.sessions import Session, first_unlike, read_session
from driftstore.storetexts import read_machine, write_machine
from drawing import drawn_machine
from test_writing import LONG
from wrong_values import NO_ROW_PARTS, WrongValueTests

SMALL = "prime 3\nstir 2\nwrite 1\nsee 1"
SWAP = "prime 2\nstir 0 1\nstir 1 0\nwrite 1 0\nsee 1 0"
LINES = ("put 1", "add 0", "tick", "held", "wait", "program ask:add 0:get 0:say", "kept", "see 0", "sing", "", "put 7",
         "round", "  hand ", "lost", "program say")
NO_STRINGS = [value for value in NO_ROW_PARTS if not isinstance(value, str)] + [0, b"tick"]
FRAME = "| prime 3\n| stir 2\n| write 1\n| see 1"
# Lines that come to no kept program of 6000 instructions on a machine with a round of 2400.
LARGE = "program ask:add 0:get 0:say:zero 0:zero 1:zero 2:zero 3:get 1:add 2:get 3:say:zero 8:zero 9:zero 10"


def session_of(text, lines):
    session = Session(text)
    for line in lines:
        session.say(line)
    return session


class SessionTests(unittest.TestCase):
    def test_the_example(self):
        session = Session(SMALL)
        self.assertEqual([session.say("put 2"), session.say("keeps")], ["done", "1"])
        self.assertEqual(session.text().split("\n")[4:], ["> put 2", "< done", "> keeps", "< 1"])
        self.assertEqual(first_unlike(session.text() + "\n> tick\n< 5"), 2)

    def test_it_answers_what_a_desk_answers(self):
        chance = random.Random(211)
        for _ in range(40):
            text = write_machine(drawn_machine(chance))
            session, desk, told = Session(text), Desk(), []
            desk.take_machine(text)
            for _ in range(20):
                line = chance.choice(LINES + ("join 0", "part 0", "take 0", "unseen", "reached", "keeps", " program say"))
                if line.startswith("program "):
                    answer = desk.take_program(line[8:].replace(":", "\n"))
                else:
                    answer = desk.say(line)
                self.assertEqual(session.say(line), answer)
                told.append((line, answer))
                self.assertEqual(session.log, tuple(told))

    def test_programs_with_colons(self):
        session = Session(SMALL)
        self.assertEqual([session.say("kept"), session.say("program ask:say"), session.say("kept")],
                         ["no program", "taken", "ask; say"])
        self.assertEqual([session.say("program   say :: ask: "), session.say("kept")], ["taken", "say; ask"])
        # Without a space behind the word, or with one ahead of it, it is no program.
        self.assertEqual([session.say("program"), session.say(" program ask"), session.say("programs ask"),
                          session.say("program:ask"), session.say("kept")], ["what"] * 4 + ["say; ask"])
        self.assertEqual(session.log[1], ("program ask:say", "taken"))

    def test_the_log(self):
        session = Session(SMALL)
        self.assertEqual(session.log, ())
        session.say("put 2")
        first = session.log
        session.say("  sing  ")
        self.assertEqual([first, session.log], [(("put 2", "done"),), (("put 2", "done"), ("  sing  ", "what"))])
        self.assertIs(type(session.log), tuple)

    def test_the_text(self):
        session = Session("\n prime   3\n\nstir 2 \nwrite 1\nsee 1\n\n")
        self.assertEqual(session.text(), FRAME)
        session.say("put 2")
        session.say("")
        session.say("program ask:say")
        self.assertEqual(session.text(), FRAME + "\n> put 2\n< done\n> \n< what\n> program ask:say\n< taken")
        self.assertEqual(session.text(), FRAME + "\n> put 2\n< done\n> \n< what\n> program ask:say\n< taken")

    def test_lines_that_are_not_kept(self):
        session = session_of(SMALL, ("put 2", "program ask"))
        log = session.log
        for line, error in (("program ", BadLine), ("program sing", BadLine), ("program put 3", BadProgram),
                            ("program say:wait", BadProgram), ("tick\n", BadString), ("\n", BadString),
                            ("program say\nsay", BadString), (7, BadString), (None, BadString)):
            self.assertRaises(error, session.say, line)
            self.assertEqual(session.log, log)
        self.assertEqual([session.say("kept"), session.say("tick")], ["ask", "1"])
        session = session_of(write_machine(LONG), (LARGE,))
        self.assertRaises(TooMany, session.say, "kept")
        self.assertEqual(session.log, ((LARGE, "taken"),))
        self.assertEqual(session.text(), "| " + write_machine(LONG).replace("\n", "\n| ") + f"\n> {LARGE}\n< taken")

    def test_other_signs_are_no_end_of_a_line(self):
        session = Session(SMALL)
        for line in ("tick\r", "tick\x0b", "\u2028", "tick\t", "> tick", "< 1", "| prime"):
            self.assertEqual(session.say(line), "what")
        self.assertEqual(read_session(session.text())[1], session.log)
        self.assertIsNone(first_unlike(session.text()))

    def test_sessions_are_apart(self):
        one, other = Session(SMALL), Session(SMALL)
        one.say("put 2")
        self.assertEqual([other.log, other.say("hand")], [(), "0"])

    def test_the_interface(self):
        for name, names in (("say", ["self", "line"]), ("text", ["self"])):
            self.assertEqual(list(inspect.signature(vars(Session)[name]).parameters), names)
        self.assertIsInstance(vars(Session)["log"], property)
        self.assertEqual(list(inspect.signature(Session).parameters), ["text"])
        for name in ("Session", "read_session", "first_unlike"):
            self.assertEqual(getattr(sessions, name).__module__, "driftstore.sessions")
        for function in (read_session, first_unlike):
            self.assertEqual(list(inspect.signature(function).parameters), ["text"])
        self.assertIsNone(first_unlike(text=Session(text=SMALL).text()))


class ReadSessionTests(WrongValueTests, unittest.TestCase):
    def assert_bad(self, text, line, place):
        for function in (read_session, first_unlike):
            self.assert_raises_exactly(BadLine, function, text, line=line, place=place)

    def test_what_a_session_has_written(self):
        for text in (SMALL, SWAP):
            for many in range(len(LINES) + 1):
                session = session_of(text, LINES[:many])
                self.assertEqual(read_session(session.text()), (read_machine(text), session.log))

    def test_machine_lines_are_read_as_read_machine_does(self):
        self.assertEqual(read_session("| \n|   prime 3\n| stir   2\n| \n| write 1\n| see 1\n> a  b \n<  c"),
                         (read_machine(SMALL), (("a  b ", " c"),)))

    def test_lines_and_answers_are_whatever_stands_there(self):
        told = read_session(FRAME + "\n> \n< \n> > tick\n< < 1\n> | x\n< >")
        self.assertEqual(told, (read_machine(SMALL), (("", ""), ("> tick", "< 1"), ("| x", ">"))))

    def test_a_line_that_begins_otherwise(self):
        for line in ("", ">", ">tick", " > tick", "tick", "|", "* a", "<", "<b"):
            self.assert_bad(FRAME + "\n" + line, 5, 1)
            self.assert_bad(FRAME + "\n> a\n< b\n" + line + "\n< c", 7, 1)
            self.assert_bad(FRAME + "\n> a\n< b\n> c\n" + line, 8, 1)
        self.assert_bad(FRAME + "\n< 0", 5, 1)
        self.assert_bad(FRAME + "\n> a\n< b\n| see 1", 7, 1)
        self.assert_bad(FRAME + "\n> a\n| see 1\n< b", 6, 1)
        self.assert_bad(FRAME + "\n> a\n> b\n< c", 6, 1)
        self.assert_bad(FRAME + "\n> a\n<b", 6, 1)
        self.assert_bad(FRAME + "\n> a\n< b\n", 7, 1)
        self.assert_bad(FRAME + "\n", 5, 1)

    def test_a_line_that_is_lacking(self):
        self.assert_bad(FRAME + "\n> a", 6, 1)
        self.assert_bad(FRAME + "\n> a\n< b\n> c", 8, 1)

    def test_then_what_read_machine_tells(self):
        self.assert_bad("| prime 4", 1, 2)
        self.assert_bad("| prime 3\n| stir 2\n| write 1", 4, 1)
        self.assert_bad("| prime 3\n| stir 2\n| write 1\n> a\n< b", 4, 1)
        self.assert_bad("| prime 3\n| stir 0\n| write 1\n| see 1\n> a\n< b", 2, 1)
        self.assert_bad(FRAME + "\n| \n| sing\n> a\n< b", 6, 1)
        self.assert_bad("> a\n< b", 2, 1)
        # Lines behind those of the machine come first.
        self.assert_bad("| prime 4\nsing", 2, 1)
        self.assert_bad("| prime 4\n> a", 3, 1)
        self.assert_bad("prime 3", 1, 1)
        self.assert_bad("", 1, 1)

    def test_what_is_no_string(self):
        for text in NO_STRINGS:
            for function in (read_session, first_unlike, Session):
                self.assert_raises_exactly(BadString, function, text)
            self.assert_raises_exactly(BadString, Session(SMALL).say, text)

    def test_texts_of_no_machine(self):
        self.assert_raises_exactly(BadLine, Session, "", line=2, place=1)
        self.assert_raises_exactly(BadLine, Session, "prime 4", line=1, place=2)
        self.assert_raises_exactly(BadLine, Session, FRAME, line=1, place=1)

    def test_wrong_lines(self):
        session = Session(SMALL)
        self.assert_raises_exactly(BadLine, session.say, "program say::put 7", line=3, place=2)
        self.assert_raises_exactly(BadLine, session.say, "program ", line=2, place=1)
        self.assert_raises_exactly(BadLine, session.say, "program :", line=3, place=1)
        self.assert_raises_exactly(BadProgram, session.say, "program say:put 3", index=1)
        self.assert_raises_exactly(BadProgram, session.say, "program " + "say:" * 21, index=None)


class FirstUnlikeTests(unittest.TestCase):
    def test_unchanged_texts(self):
        for text in (SMALL, SWAP):
            for many in range(len(LINES) + 1):
                self.assertIsNone(first_unlike(session_of(text, LINES[:many]).text()))

    def test_a_changed_answer(self):
        for text in (SMALL, SWAP):
            lines = session_of(text, LINES).text().split("\n")
            first = len(text.split("\n"))
            for place in range(len(LINES)):
                at = first + 2 * place + 1
                for answer in ("< ", lines[at] + "x", lines[at] + " ", "< -1"):
                    changed = lines[:at] + [answer] + lines[at + 1:]
                    self.assertEqual(first_unlike("\n".join(changed)), place)
                    if place + 1 < len(LINES):
                        # A second one behind it changes nothing.
                        changed[-1] = "< sung"
                        self.assertEqual(first_unlike("\n".join(changed)), place)

    def test_a_changed_line(self):
        session = session_of(SMALL, ("put 2", "hand", "tick"))
        self.assertEqual(first_unlike(session.text().replace("put 2", "put 1")), 1)
        self.assertEqual(first_unlike(session.text().replace("put 2", "put 4")), 0)
        self.assertEqual(first_unlike(session.text().replace("> hand", "> held")), 1)

    def test_errors_go_through(self):
        self.assertRaises(BadLine, first_unlike, FRAME + "\n> program sing\n< taken")
        self.assertRaises(BadProgram, first_unlike, FRAME + "\n> program wait\n< taken")
        long = "| " + write_machine(LONG).replace("\n", "\n| ")
        self.assertRaises(TooMany, first_unlike, long + f"\n> {LARGE}\n< taken\n> kept\n< no way")
        # All lines are said again, also those behind an answer that is another one.
        self.assertRaises(BadLine, first_unlike, FRAME + "\n> tick\n< 9\n> program sing\n< taken")
        self.assertEqual(first_unlike(FRAME + "\n> tick\n< 9\n> program say\n< taken"), 0)


if __name__ == "__main__":
    unittest.main()
