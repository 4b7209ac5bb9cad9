"""Tests of driftstore.benches (points 1 and 19)."""

import inspect
import random
import unittest

from driftstore.benches import Store
from driftstore.errors import BadMachine, BadNumber
from drawing import PRIMES, drawn_machine, unit
from trying_out import after_deed
from wrong_values import FAR_INTEGERS, NO_INTEGERS, NO_ROW_PARTS, WrongValueTests, put_in

SWAP = (2, ((0, 1), (1, 0)), ((1, 0),), ((1, 0),))
MANY = (7, ((1, 2), (3, 4)), ((1, 0), (0, 2), (3, 3)), ((0, 1), (5, 1)))
STILL = (7, unit(2), ((1, 0), (0, 2)), ((1, 0), (0, 1), (1, 1)))


class StoreTests(unittest.TestCase):
    def assert_state(self, store, tick, held, own):
        self.assertEqual((store.tick, store.held, store.own), (tick, held, own))

    def test_the_example(self):
        store = Store((3, ((2,),), ((1,),), ((1,),)))
        store.put(2)
        store.write(0)
        self.assertEqual([store.held, store.see(0), store.held, store.tick], [(1,), 1, (2,), 3])

    def test_memory_and_hand_are_0_at_first(self):
        for cells in (1, 2, 3, 4):
            self.assert_state(Store((5, unit(cells), unit(cells), unit(cells))), 0, (0,) * cells, 0)

    def test_each_deed(self):
        store = Store(STILL)
        self.assertIsNone(store.put(3))
        self.assert_state(store, 1, (0, 0), 3)
        self.assertIsNone(store.write(0))
        self.assert_state(store, 2, (3, 0), 3)
        self.assertIsNone(store.write(1, True))
        self.assert_state(store, 3, (3, 1), 3)
        self.assertEqual(store.see(2), 4)
        self.assert_state(store, 4, (3, 1), 4)
        self.assertIsNone(store.join(0))
        self.assert_state(store, 5, (3, 1), 0)
        self.assertIsNone(store.join(1, True))
        self.assert_state(store, 6, (3, 1), 6)
        self.assertIsNone(store.wait())
        self.assert_state(store, 7, (3, 1), 6)

    def test_deeds_come_ahead_of_the_stirring(self):
        store = Store(SWAP)
        store.put(1)
        store.write(0)
        self.assert_state(store, 2, (0, 1), 1)
        store.wait()
        self.assert_state(store, 3, (1, 0), 1)
        self.assertEqual(store.see(0), 1)
        self.assert_state(store, 4, (0, 1), 1)
        self.assertEqual(store.see(0), 0)
        self.assert_state(store, 5, (1, 0), 0)

    def test_only_true_takes(self):
        for is_taken in (True, False, None, 1, 0, "True", (), [True], {}):
            store = Store(STILL)
            store.put(3)
            store.write(0, is_taken)
            self.assertEqual(store.held, (4, 0) if is_taken is True else (3, 0))
            store.put(1)
            store.join(0, is_taken)
            self.assertEqual(store.own, (1 - 4) % 7 if is_taken is True else 4)
        store = Store(STILL)
        store.put(3)
        store.write(plug=0, is_taken=True)
        store.join(sight=0, is_taken=True)
        self.assert_state(store, 3, (4, 0), 6)

    def test_drawn_deeds(self):
        chance = random.Random(191)
        for _ in range(150):
            machine = drawn_machine(chance)
            store, memory, hand = Store(machine), (0,) * len(machine[1]), 0
            for tick in range(chance.randint(1, 40)):
                word = chance.choice(("get", "plus", "minus", "add", "take", "put", "put", "wait"))
                number = chance.randrange(
                    {"put": machine[0], "add": len(machine[2]), "take": len(machine[2])}.get(word, len(machine[3])))
                memory, hand = after_deed(machine, (word, number), memory, hand)
                if word == "get":
                    self.assertEqual(store.see(number), hand)
                elif word in ("plus", "minus"):
                    store.join(number, word == "minus")
                elif word in ("add", "take"):
                    store.write(number, word == "take")
                elif word == "put":
                    store.put(number)
                else:
                    store.wait()
                self.assert_state(store, tick + 1, memory, hand)

    def test_stores_are_apart(self):
        one, other = Store(SWAP), Store(SWAP)
        one.put(1)
        self.assert_state(other, 0, (0, 0), 0)

    def test_the_interface(self):
        for name, names in (
            ("see", ["self", "sight"]), ("join", ["self", "sight", "is_taken"]),
            ("write", ["self", "plug", "is_taken"]), ("put", ["self", "number"]), ("wait", ["self"]),
        ):
            self.assertEqual(list(inspect.signature(vars(Store)[name]).parameters), names)
        for name in ("tick", "held", "own"):
            self.assertIsInstance(vars(Store)[name], property)
        self.assertEqual(Store.__module__, "driftstore.benches")
        self.assertEqual(list(inspect.signature(Store).parameters), ["machine"])
        self.assertEqual(Store(machine=SWAP).see(sight=0), 0)


class WrongInputTests(WrongValueTests, unittest.TestCase):
    def test_wrong_machines(self):
        for machine in NO_ROW_PARTS + [list(SWAP), SWAP[:3]]:
            self.assert_raises_exactly(BadMachine, Store, machine, part="machine")
        for at, part, value in ((0, "prime", 4), (1, "stir", ((1, 1), (1, 1))), (2, "writes", ()), (3, "sights", None)):
            self.assert_raises_exactly(BadMachine, Store, put_in(SWAP, at, value), part=part)

    def test_numbers_at_and_beyond_their_ranges(self):
        store = Store(MANY)
        store.put(4)
        store.write(2)
        state = (store.tick, store.held, store.own)
        for value in NO_INTEGERS + FAR_INTEGERS + [-1]:
            for function in (store.see, store.join, store.write, store.put):
                self.assert_raises_exactly(BadNumber, function, value)
            for function in (store.join, store.write):
                self.assert_raises_exactly(BadNumber, function, value, True)
                self.assert_raises_exactly(BadNumber, function, value, None)
        for function, most in ((store.see, 1), (store.join, 1), (store.write, 2), (store.put, 6)):
            self.assert_raises_exactly(BadNumber, function, most + 1)
        self.assertEqual((store.tick, store.held, store.own), state)
        for function, most in ((store.see, 1), (store.join, 1), (store.write, 2), (store.put, 6)):
            function(0)
            function(most)
        self.assertEqual(store.tick, state[0] + 8)

    def test_numbers_modulo_the_prime(self):
        for prime in PRIMES:
            store = Store((prime, ((1,),), ((1,),), ((1,),)))
            store.put(prime - 1)
            self.assert_raises_exactly(BadNumber, store.put, prime)
            self.assertEqual(store.own, prime - 1)


if __name__ == "__main__":
    unittest.main()
