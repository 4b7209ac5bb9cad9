"""Tests of what the document promises over the whole program (point 1 and the interface)."""

import copy
import importlib
import inspect
import random
import unittest

from driftstore import errors
from driftstore.errors import (
    BadInputs, BadLine, BadMachine, BadMemory, BadNumber, BadProgram, BadRows, BadString, NoWay, StoreError, TooMany,
)
from drawing import drawn_hits, drawn_machine, drawn_program, drawn_row
from wrong_values import NO_ROW_PARTS, WrongValueTests

SWAP = (2, ((0, 1), (1, 0)), ((1, 0),), ((1, 0),))
FOUND = (("ask",), ("add", 0), ("get", 0), ("say",))
KEPT = FOUND[:2] + (("wait",),) + FOUND[2:]
ROWS = ((1, 2, 0), (2, 1, 0))
TEXT = "prime 2\nstir 0 1\nstir 1 0\nwrite 1 0\nsee 1 0"
SESSION = "| " + TEXT.replace("\n", "\n| ") + "\n> tick\n< 0"

MACHINE = ("machine", SWAP, None, BadMachine)
VALUES = ("values", 1, 0, BadNumber)
PROGRAM = ("program", FOUND, (("wait",),), BadProgram)
HITS = ("hits", ((1, 0),), (), BadRows)
INPUTS = ("inputs", (1,), None, BadInputs)
MOST = ("most", 9, 100001, BadNumber)
ONE_TEXT = {"machine": TEXT, "program": "ask\nsay", "session": SESSION}

# For each function its arguments: name, a right value, a wrong one, and the error for that.
FUNCTIONS = {
    "fields.stairs": [("prime", 3, 4, BadNumber), ("rows", ROWS, (), BadRows)],
    "fields.rank": [("prime", 3, 4, BadNumber), ("rows", ROWS, (), BadRows)],
    "fields.against": [("prime", 3, 4, BadNumber), ("rows", ROWS, (), BadRows)],
    "machines.behind_ticks": [MACHINE, ("memory", (0, 1), (0, 2), BadMemory), ("ticks", 5, -1, BadNumber)],
    "machines.turns": [MACHINE],
    "programs.used": [("prime", 2, 4, BadNumber), VALUES, PROGRAM],
    "runs.run_stirred": [MACHINE, ("program", KEPT, (), BadProgram), INPUTS, MOST, ("memory", (0, 1), [0, 1], BadMemory)],
    "runs.run_still": [("prime", 2, 4, BadNumber), VALUES, PROGRAM, INPUTS, MOST],
    "parts.reached": [MACHINE],
    "parts.unseen": [MACHINE],
    "parts.lost": [MACHINE],
    "parts.keeps": [MACHINE],
    "walks.faults": [MACHINE, VALUES, PROGRAM, ("kept", KEPT, (), BadProgram)],
    "walks.carries": [MACHINE, VALUES, PROGRAM, ("kept", KEPT, (), BadProgram)],
    "codes.reading": [MACHINE, ("form", (0, 1), (0, 2), BadRows)],
    "codes.writing": [MACHINE, ("column", (0, 1), (0, 2), BadRows)],
    "codes.codes": [MACHINE, VALUES],
    "codes.shows_codes": [MACHINE, VALUES, ("value", (((0, 1),), ((1, 1),)), None, None)],
    "writing.kept": [MACHINE, VALUES, PROGRAM],
    "universals.keeps_all": [MACHINE, VALUES],
    "universals.hardest": [VALUES],
    "universals.echo": [("prime", 2, 4, BadNumber), VALUES],
    "hits.struck": [MACHINE, HITS],
    "hits.keeps_despite": [MACHINE, HITS],
    "hits.kept_despite": [MACHINE, HITS, VALUES, PROGRAM],
    "hits.faults_despite": [MACHINE, HITS, VALUES, PROGRAM, ("kept", KEPT, (), BadProgram)],
    "hits.run_hit": [MACHINE, HITS, ("program", KEPT, (), BadProgram), INPUTS, MOST, ("blows", ((0, 0, 1),), [], BadRows)],
    "alikes.answers": [MACHINE, ("ticks", 5, 201, BadNumber)],
    "alikes.first_unlike": [MACHINE, ("other", SWAP, None, BadMachine)],
    "alikes.least_machine": [MACHINE],
    "alikes.turned": [MACHINE],
    "starts.are_apart": [MACHINE, ("one", (0, 1), (0, 2), BadMemory), ("other", (0, 0), (0, 2), BadMemory)],
    "starts.first_look": [MACHINE, ("one", (0, 1), (0, 2), BadMemory), ("other", (0, 0), (0, 2), BadMemory)],
    "starts.fewest_looks": [MACHINE, ("memories", ((0, 0), (0, 1)), (), BadMemory)],
    "storetexts.write_machine": [MACHINE],
    "storetexts.read_machine": [("text", TEXT, None, BadString)],
    "storetexts.write_program": [("program", KEPT, (), BadProgram)],
    "storetexts.read_program": [("text", "ask\nsay", None, BadString)],
    "benches.Store": [MACHINE],
    "desks.Desk": [],
    "sessions.Session": [("text", TEXT, None, BadString)],
    "sessions.read_session": [("text", SESSION, None, BadString)],
    "sessions.first_unlike": [("text", SESSION, None, BadString)],
}
CLASSES = ("benches.Store", "desks.Desk", "sessions.Session")
METHODS = {
    "benches.Store": {"see": 1, "join": 2, "write": 2, "put": 1, "wait": 0},
    "desks.Desk": {"take_machine": 1, "take_program": 1, "say": 1},
    "sessions.Session": {"say": 1, "text": 0},
}
PROPERTIES = {"benches.Store": ("tick", "held", "own"), "desks.Desk": (), "sessions.Session": ("log",)}
# Errors that any argument may lead to behind all others.
LAST = (NoWay, TooMany)
FIELDS = {BadMachine: {"part"}, BadProgram: {"index"}, BadLine: {"line", "place"}, TooMany: {"most"}}


def named(path):
    """What stands in a module under a name of the interface."""
    module, name = path.split(".")
    return getattr(importlib.import_module("driftstore." + module), name)


def rights(path):
    return tuple(argument[1] for argument in FUNCTIONS[path])


def drawn_value(chance, depth=3):
    """An integer, a string, a truth, None, or a tuple, list or dict of such values."""
    kind = chance.randrange(8 if depth else 5)
    if kind < 2:
        return chance.choice((0, 1, 2, 3, 5, 7, -1, 20, 6000, 100000, 10 ** 30, chance.randrange(-9, 100)))
    if kind == 2:
        return chance.choice(("", "say", "get", "wait", "2", "prime 2", "machine", TEXT, "go 3", "| a", "a\nb"))
    if kind == 3:
        return chance.choice((True, False))
    if kind == 4:
        return None
    parts = [drawn_value(chance, depth - 1) for _ in range(chance.randrange(5))]
    if kind == 5:
        return tuple(parts)
    if kind == 6:
        return parts
    return {chance.choice((0, 1, "say", None, (1, 2))): part for part in parts}


def bent(chance, value):
    """A right value with something else in the place of some part of it."""
    if isinstance(value, tuple) and value and chance.random() < 0.8:
        at = chance.randrange(len(value))
        return value[:at] + (bent(chance, value[at]),) + value[at + 1:]
    if isinstance(value, str) and value and chance.random() < 0.8:
        at = chance.randrange(len(value))
        return value[:at] + chance.choice(("", " ", "\n", "0", "9", ":", "say", "| ", "> ", "\n< 1")) + value[at + 1:]
    return drawn_value(chance)


def plain(value):
    """Whether an answer is made of integers, strings, truths, None and tuples alone."""
    if isinstance(value, tuple):
        return all(plain(part) for part in value)
    return value is None or type(value) in (int, str, bool)


def same(one, other):
    """Whether two values are equal and of the same kinds throughout."""
    return repr(one) == repr(other)


class WholeDocumentTests(WrongValueTests, unittest.TestCase):
    def answer(self, path, args):
        """The answer or the error of a call, which must leave its arguments as they were."""
        before = copy.deepcopy(args)
        try:
            told = named(path)(*args)
        except StoreError as error:
            told = (type(error), tuple(sorted(vars(error).items())))
        self.assertTrue(same(args, before), (path, before))
        return told

    def test_all_names_stand_in_their_files(self):
        for path, arguments in FUNCTIONS.items():
            found = named(path)
            self.assertEqual(found.__module__, "driftstore." + path.split(".")[0])
            self.assertEqual(inspect.isclass(found), path in CLASSES)
            self.assertEqual(list(inspect.signature(found).parameters), [argument[0] for argument in arguments])

    def test_methods_and_properties_stand_in_the_classes_themselves(self):
        for path in CLASSES:
            members = vars(named(path))
            for name, many in METHODS[path].items():
                self.assertEqual(len(inspect.signature(members[name]).parameters), many + 1)
            for name in PROPERTIES[path]:
                self.assertIsInstance(members[name], property)

    def test_all_errors_stand_under_store_error_which_stands_under_value_error(self):
        found = [value for value in vars(errors).values() if inspect.isclass(value)]
        self.assertEqual({error.__name__ for error in found}, {
            "StoreError", "BadMachine", "BadProgram", "BadLine", "TooMany", "BadInputs", "BadNumber", "BadMemory",
            "BadRows", "NoWay", "BadString"})
        for error in found:
            self.assertTrue(issubclass(error, StoreError) and issubclass(error, ValueError))

    def test_the_error_for_each_argument(self):
        for path, arguments in FUNCTIONS.items():
            for at, (_, _, wrong, error) in enumerate(arguments):
                if error is not None:
                    args = rights(path)[:at] + (wrong,) + rights(path)[at + 1:]
                    self.assert_raises_exactly(error, named(path), *args)

    def test_the_leftmost_error_is_raised(self):
        for path, arguments in FUNCTIONS.items():
            wrong = [(value, error) for _, _, value, error in arguments if error is not None]
            self.assert_leftmost_raised(named(path), rights(path), wrong)

    def test_no_way_and_too_many_come_behind_all_others(self):
        deaf = (2, ((1,),), ((0,),), ((1,),))
        for path, args in (("codes.codes", (deaf, 1)), ("writing.kept", (deaf, 1, FOUND)), ("codes.writing", (deaf, (1,))),
                           ("hits.kept_despite", (deaf, ((1,),), 1, FOUND))):
            self.assert_raises_exactly(NoWay, named(path), *args)
            for at, (_, _, wrong, error) in enumerate(FUNCTIONS[path]):
                self.assert_raises_exactly(error, named(path), *args[:at], wrong, *args[at + 1:])

    def test_any_value_for_any_argument(self):
        chance = random.Random(11)
        for path, arguments in FUNCTIONS.items():
            right = rights(path)
            for at in range(len(arguments)):
                # With another right value here those behind it may be wrong.
                allowed = LAST + tuple(argument[3] for argument in arguments[at:])
                allowed += (BadLine,) if BadString in allowed else ()
                for value in NO_ROW_PARTS + [drawn_value(chance) for _ in range(60)]:
                    told = self.answer(path, right[:at] + (value,) + right[at + 1:])
                    if isinstance(told, tuple) and told and inspect.isclass(told[0]):
                        self.assertIn(told[0], allowed, (path, at, value))
                        self.assertEqual({name for name, _ in told[1]}, FIELDS.get(told[0], set()))

    def test_right_values_with_wrong_parts(self):
        chance = random.Random(12)
        for path in FUNCTIONS:
            for _ in range(250):
                args = list(rights(path))
                for _ in range(chance.choice((1, 1, 2))):
                    if args:
                        at = chance.randrange(len(args))
                        args[at] = bent(chance, args[at])
                told = self.answer(path, tuple(args))
                if path not in CLASSES:
                    self.assertTrue(same(told, self.answer(path, tuple(args))))

    def test_the_same_call_twice_gives_the_same_answer(self):
        chance = random.Random(13)
        for path in FUNCTIONS:
            if path not in CLASSES:
                told = self.answer(path, rights(path))
                self.assertTrue(plain(told), path)
                self.assertTrue(same(told, self.answer(path, rights(path))))
        for _ in range(60):
            machine = drawn_machine(chance)
            hits, values = drawn_hits(chance, machine), chance.randint(1, 4)
            memories = tuple(sorted({drawn_row(chance, machine[0], len(machine[1])) for _ in range(5)}))
            for path, args in (
                ("parts.keeps", (machine,)), ("codes.codes", (machine, values)), ("alikes.least_machine", (machine,)),
                ("codes.reading", (machine, memories[0])), ("codes.writing", (machine, memories[-1])),
                ("writing.kept", (machine, values, drawn_program(chance, machine[0], values))),
                ("hits.kept_despite", (machine, hits, values, drawn_program(chance, machine[0], values))),
                ("starts.fewest_looks", (machine, memories)), ("storetexts.write_machine", (machine,)),
            ):
                told = self.answer(path, args)
                self.assertTrue(same(told, self.answer(path, copy.deepcopy(args))))

    def test_functions_that_show_return_a_truth_for_any_value(self):
        chance = random.Random(14)
        for value in NO_ROW_PARTS + [drawn_value(chance) for _ in range(400)]:
            self.assertIn(named("codes.shows_codes")(SWAP, 1, value), (True, False))
            self.assertIs(type(named("codes.shows_codes")(SWAP, 1, value)), bool)
        for path, at in (("walks.carries", 4), ("universals.keeps_all", 2), ("starts.are_apart", 3)):
            self.assertIs(type(named(path)(*rights(path)[:at])), bool)

    def test_methods_with_any_value(self):
        chance = random.Random(15)
        for path in CLASSES:
            held = named(path)(*rights(path))
            for _ in range(400):
                name = chance.choice(sorted(METHODS[path]))
                many = METHODS[path][name]
                args = tuple(bent(chance, chance.choice(list(ONE_TEXT.values()))) for _ in range(many))
                args = tuple(drawn_value(chance) if chance.random() < 0.5 else value for value in args)
                before = copy.deepcopy(args)
                try:
                    self.assertTrue(plain(getattr(held, name)(*args)))
                except StoreError:
                    pass
                self.assertTrue(same(args, before))
                for read in PROPERTIES[path]:
                    self.assertTrue(plain(getattr(held, read)))


class ExampleTests(unittest.TestCase):
    def test_the_examples_for_hits_alikes_and_starts(self):
        self.assertEqual([named("hits.keeps_despite")(SWAP, ((1, 0),)), named("hits.keeps_despite")(SWAP, ((0, 0),)),
                          named("hits.struck")(SWAP, ((1, 0),))], [1, 2, ((1, 0), (0, 1))])
        machine = (2, ((1, 0), (0, 1)), ((1, 1),), ((1, 0),))
        self.assertEqual([named("alikes.least_machine")(machine),
                          named("alikes.first_unlike")(machine, (2, ((1,),), ((0,),), ((1,),)))],
                         [(2, ((1,),), ((1,),), ((1,),)), (0, 0, 0)])
        self.assertEqual([named("starts.first_look")(SWAP, (0, 0), (0, 1)),
                          named("starts.fewest_looks")(SWAP, ((0, 0), (0, 1), (1, 0)))], [(1, 0), (0, 0)])

    def test_the_examples_for_texts_stores_desks_and_sessions(self):
        self.assertEqual([named("storetexts.read_machine")("prime 3\nstir 2\nwrite 1\nsee 1"),
                          named("storetexts.write_program")((("add", 0), ("zero", 0)))],
                         [(3, ((2,),), ((1,),), ((1,),)), "add 0\nzero 0"])
        store = named("benches.Store")((3, ((2,),), ((1,),), ((1,),)))
        store.put(2)
        store.write(0)
        self.assertEqual([store.held, store.see(0), store.held, store.tick], [(1,), 1, (2,), 3])
        desk = named("desks.Desk")()
        desk.take_machine(TEXT)
        desk.take_program("ask\nadd 0\nget 0\nsay")
        self.assertEqual([desk.say(line) for line in ["keeps", "round", "reached", "lost", "put 2", "sing"]],
                         ["2", "2", "1 0; 0 1", "-", "no such number", "what"])
        session = named("sessions.Session")("prime 3\nstir 2\nwrite 1\nsee 1")
        answers = [session.say("put 2"), session.say("keeps")]
        self.assertEqual(
            [answers, session.text().split("\n")[4:], named("sessions.first_unlike")(session.text() + "\n> tick\n< 5")],
            [["done", "1"], ["> put 2", "< done", "> keeps", "< 1"], 2])


if __name__ == "__main__":
    unittest.main()
