"""Tests of driftstore.starts (points 1 and 16)."""

import inspect
import itertools
import random
import unittest
from unittest import mock

from driftstore import starts
from driftstore.errors import BadMachine, BadMemory
from driftstore.parts import unseen
from driftstore.starts import are_apart, fewest_looks, first_look
from drawing import PRIMES, drawn_machine, drawn_row, unit
from trying_out import meet, memories, one_tick, small_machines, unseen_tried_out
from wrong_values import NO_ROW_PARTS, WrongValueTests, put_in

SWAP = (2, ((0, 1), (1, 0)), ((1, 0),), ((1, 0),))
NEXT = (5, ((0, 1, 0, 0), (0, 0, 1, 0), (0, 0, 0, 1), (1, 0, 0, 0)), ((0, 0, 0, 0),), ((1, 0, 0, 0),))
BLIND = (3, unit(2), unit(2), ((0, 0),))
HALF = (3, unit(2), unit(2), ((1, 0), (2, 0)))


def look_tried_out(machine, one, other):
    """The first (ticks, sight) that tells two memories apart, tick by tick until both are as they were."""
    first = (one, other)
    for ticks in itertools.count():
        for sight, row in enumerate(machine[3]):
            if meet(machine[0], row, one) != meet(machine[0], row, other):
                return ticks, sight
        one, other = one_tick(machine, one), one_tick(machine, other)
        if (one, other) == first:
            return None


def told_apart(machine, found, sights):
    """How many unlike rows of numbers are seen from memories by sights, one a tick."""
    rows = set()
    for memory in found:
        row = []
        for sight in sights:
            row.append(meet(machine[0], machine[3][sight], memory))
            memory = one_tick(machine, memory)
        rows.add(tuple(row))
    return len(rows)


def kinds_of(machine, found):
    """One of each kind of memories that can ever be told apart."""
    prime, unseen_ones = machine[0], unseen_tried_out(machine)
    kinds = []
    for memory in found:
        if not any(tuple((a - b) % prime for a, b in zip(memory, kind)) in unseen_ones for kind in kinds):
            kinds.append(memory)
    return kinds


def looks_tried_out(machine, kinds):
    """The least of the shortest rows of sights that tell all apart, all rows of sights tried out."""
    for many in itertools.count():
        for sights in itertools.product(range(len(machine[3])), repeat=many):
            if told_apart(machine, kinds, sights) == len(kinds):
                return sights


def drawn_memories(chance, machine, most):
    many = min(most, machine[0] ** len(machine[1]))
    found = set()
    wanted = chance.randint(1, many)
    while len(found) < wanted:
        found.add(drawn_row(chance, machine[0], len(machine[1])))
    return tuple(sorted(found))


class ApartTests(unittest.TestCase):
    def assert_look(self, told, machine, one, other):
        self.assertEqual(first_look(machine, one, other), told)
        self.assertEqual(first_look(machine, other, one), told)
        self.assertIs(are_apart(machine, one, other), told is not None)
        self.assertIs(are_apart(machine, other, one), told is not None)

    def test_the_example(self):
        self.assert_look((1, 0), SWAP, (0, 0), (0, 1))

    def test_all_pairs_of_memories_tried_out(self):
        told = []
        for machine in small_machines(161, 150, 30):
            for one, other in itertools.combinations(memories(machine), 2):
                with self.subTest(machine=machine, one=one, other=other):
                    told.append(look_tried_out(machine, one, other))
                    self.assert_look(told[-1], machine, one, other)
        self.assertGreater(told.count(None), 500)
        self.assertGreater(len({place for place in told if place}), 5)

    def test_drawn_pairs(self):
        chance, told = random.Random(162), []
        for _ in range(600):
            machine = drawn_machine(chance, (2, 3))
            one, other = (drawn_row(chance, machine[0], len(machine[1])) for _ in range(2))
            told.append(look_tried_out(machine, one, other))
            self.assert_look(told[-1], machine, one, other)
        self.assertGreaterEqual(len({place for place in told if place}), 6)

    def test_a_memory_and_itself(self):
        for machine in (SWAP, HALF, BLIND):
            for memory in memories(machine):
                self.assert_look(None, machine, memory, memory)

    def test_what_can_never_be_seen(self):
        self.assertEqual(unseen(HALF), ((0, 1),))
        self.assert_look(None, HALF, (1, 0), (1, 2))
        self.assert_look((0, 0), HALF, (1, 0), (2, 0))
        self.assert_look((0, 0), HALF, (1, 2), (2, 0))
        for one, other in itertools.combinations(memories(BLIND), 2):
            self.assert_look(None, BLIND, one, other)

    def test_the_first_tick_and_then_the_first_sight(self):
        machine = (3, ((0, 1), (1, 0)), unit(2), ((0, 0), (0, 1), (2, 2), (1, 0)))
        self.assert_look((0, 1), machine, (0, 0), (0, 1))
        self.assert_look((0, 2), machine, (0, 0), (1, 0))
        self.assert_look((0, 1), machine, (0, 0), (1, 2))
        machine = (3, ((0, 1), (1, 0)), unit(2), ((0, 0), (0, 2), (0, 1)))
        self.assert_look((1, 1), machine, (0, 0), (1, 0))

    def test_the_last_tick_that_tells(self):
        for tick, memory in enumerate(unit(4)):
            self.assert_look((tick, 0), NEXT, (0, 0, 0, 0), memory)
            self.assert_look((tick, 0), NEXT, (3, 1, 4, 1), tuple((a + b) % 5 for a, b in zip((3, 1, 4, 1), memory)))


class FewestLooksTests(unittest.TestCase):
    def test_the_example(self):
        self.assertEqual(fewest_looks(SWAP, ((0, 0), (0, 1), (1, 0))), (0, 0))

    def test_all_rows_of_sights_tried_out(self):
        chance, told = random.Random(163), []
        for _ in range(600):
            machine = drawn_machine(chance, (2, 3, 5))
            if machine[0] ** len(machine[1]) > 130:
                continue
            found = drawn_memories(chance, machine, chance.choice((1, 2, 4, 30)))
            with self.subTest(machine=machine, found=found):
                told.append(looks_tried_out(machine, kinds_of(machine, found)))
                self.assertEqual(fewest_looks(machine, found), told[-1])
        self.assertEqual(sorted({len(sights) for sights in told}), [0, 1, 2, 3, 4])
        self.assertGreater(len(set(told)), 12)

    def test_one_memory_needs_no_sight(self):
        for memory in memories(SWAP):
            self.assertEqual(fewest_looks(SWAP, (memory,)), ())

    def test_memories_of_which_no_two_can_ever_be_told_apart(self):
        self.assertEqual(fewest_looks(BLIND, tuple(memories(BLIND))), ())
        self.assertEqual(fewest_looks(HALF, ((1, 0), (1, 1), (1, 2))), ())

    def test_only_what_can_be_told_apart_counts(self):
        self.assertEqual(fewest_looks(HALF, tuple(memories(HALF))), (0,))
        self.assertEqual(fewest_looks(HALF, ((0, 2), (1, 0), (1, 1))), (0,))

    def test_thirty_memories(self):
        chance = random.Random(164)
        for prime in (5, 7):
            machine = (prime, unit(4), unit(4), unit(4)[::-1])
            found = tuple(sorted({drawn_row(chance, prime, 4) for _ in range(60)}))[:30]
            self.assertEqual(len(found), 30)
            self.assertEqual(fewest_looks(machine, found), looks_tried_out(machine, found))

    def test_the_least_of_the_shortest(self):
        machine = (3, unit(2), unit(2), ((0, 0), (0, 1), (1, 0), (1, 1)))
        self.assertEqual(fewest_looks(machine, ((0, 0), (0, 1))), (1,))
        self.assertEqual(fewest_looks(machine, ((0, 0), (1, 0))), (2,))
        self.assertEqual(fewest_looks(machine, ((0, 0), (0, 1), (1, 0))), (1, 2))
        self.assertEqual(fewest_looks(machine, ((0, 1), (1, 0))), (1,))
        self.assertEqual(fewest_looks(machine, ((0, 0), (0, 2), (1, 0), (2, 2))), (1, 2))
        # One sight that tells all three apart is shorter than two lesser ones.
        self.assertEqual(fewest_looks(machine, ((0, 0), (0, 1), (1, 1))), (3,))
        self.assertEqual(fewest_looks(machine, ((0, 0), (1, 0), (1, 1))), (3,))

    def test_a_sight_that_does_not_help_may_come_ahead(self):
        # At the first tick no sight tells these apart.
        machine = (2, ((0, 1), (1, 0)), unit(2), ((0, 0), (1, 0)))
        self.assertEqual(fewest_looks(machine, ((0, 0), (0, 1))), (0, 1))
        self.assertEqual(fewest_looks(NEXT, ((0, 0, 0, 0), (0, 0, 0, 1))), (0, 0, 0, 0))

    def test_never_more_sights_than_cells(self):
        # A sight seen tick by tick tells something new until it tells nothing new any more, and then another one does.
        for machine in small_machines(165, 120, 30):
            found = tuple(memories(machine))[:30]
            self.assertLessEqual(len(fewest_looks(machine, found)), len(machine[1]))

    def test_none_if_more_are_needed_than_may_be(self):
        everything = tuple(sorted(unit(4) + ((0, 0, 0, 0),)))
        for most, told in ((4, (0, 0, 0, 0)), (3, None), (0, None)):
            with mock.patch.object(starts, "MOST_LOOKS", most):
                self.assertEqual(fewest_looks(NEXT, everything), told)
                self.assertEqual(fewest_looks(NEXT, everything[:1]), ())
        self.assertEqual(starts.MOST_LOOKS, 8)


class InterfaceTests(unittest.TestCase):
    def test_names_and_places(self):
        for function, names in (
            (are_apart, ["machine", "one", "other"]), (first_look, ["machine", "one", "other"]),
            (fewest_looks, ["machine", "memories"]),
        ):
            self.assertEqual(function.__module__, "driftstore.starts")
            self.assertEqual(list(inspect.signature(function).parameters), names)
            self.assertIs(getattr(starts, function.__name__), function)

    def test_arguments_can_be_passed_by_name(self):
        self.assertIs(are_apart(other=(0, 0), one=(0, 1), machine=SWAP), True)
        self.assertEqual(first_look(other=(0, 0), one=(0, 1), machine=SWAP), (1, 0))
        self.assertEqual(fewest_looks(memories=((0, 0), (0, 1)), machine=SWAP), (0, 0))


NO_MEMORIES = [value for value in NO_ROW_PARTS if value != (0, 1)] + [
    0, 1, "01", [0, 1], {0: 1}, (0,), (0, 0, 0), (0, 2), (-1, 0), (True, 0), (0, None), ("0", "1"), ((0, 1),), (0, 10 ** 30),
]


class WrongInputTests(WrongValueTests, unittest.TestCase):
    def test_wrong_machines(self):
        calls = ((are_apart, ((0, 0), (0, 1))), (first_look, ((0, 0), (0, 1))), (fewest_looks, (((0, 0), (0, 1)),)))
        for function, rest in calls:
            for machine in NO_ROW_PARTS + [list(SWAP), SWAP[:3]]:
                self.assert_raises_exactly(BadMachine, function, machine, *rest, part="machine")
            for at, part, value in (
                (0, "prime", 4), (1, "stir", ((1, 1), (1, 1))), (2, "writes", ()), (3, "sights", None),
            ):
                self.assert_raises_exactly(BadMachine, function, put_in(SWAP, at, value), *rest, part=part)

    def test_wrong_memories(self):
        for memory in NO_MEMORIES:
            for function in (are_apart, first_look):
                self.assert_raises_exactly(BadMemory, function, SWAP, memory, (0, 1))
                self.assert_raises_exactly(BadMemory, function, SWAP, (0, 1), memory)

    def test_wrong_tuples_of_memories(self):
        wrong = [value for value in NO_ROW_PARTS if value not in (((1, 0), (0, 1)),)]
        wrong += [(memory,) for memory in NO_MEMORIES] + [((0, 0), memory) for memory in NO_MEMORIES]
        wrong += [(memory, (1, 1)) for memory in NO_MEMORIES] + [[(0, 0)], {(0, 0): 1}, {(0, 0)}, (0, 0), ((0, 0), [0, 1])]
        wrong += [((1, 0), (0, 1)), ((0, 0), (0, 0)), ((0, 0), (1, 0), (0, 1)), ((0, 0), (0, 1), (0, 1))]
        for found in wrong:
            self.assert_raises_exactly(BadMemory, fewest_looks, SWAP, found)

    def test_more_than_thirty_memories(self):
        for prime in PRIMES[2:]:
            machine = (prime, unit(2), unit(2), unit(2))
            machine = machine if prime == 7 else (prime, unit(3), unit(3), unit(3))
            found = tuple(memories(machine))
            self.assertIsNotNone(fewest_looks(machine, found[:30]))
            self.assert_raises_exactly(BadMemory, fewest_looks, machine, found[:31])
            self.assert_raises_exactly(BadMemory, fewest_looks, machine, found)

    def test_the_leftmost_error_is_raised(self):
        right, wrong = (SWAP, (0, 0), (0, 1)), ((None, BadMachine), (None, BadMemory), ((0, 2), BadMemory))
        for function in (are_apart, first_look):
            self.assert_leftmost_raised(function, right, wrong)
        self.assert_leftmost_raised(fewest_looks, (SWAP, ((0, 0),)), ((None, BadMachine), ((), BadMemory)))


if __name__ == "__main__":
    unittest.main()
