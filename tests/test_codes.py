"""Tests of driftstore.codes (points 1, 9 and 10)."""

import inspect
import itertools
import random
import unittest

from driftstore import codes as module
from driftstore.codes import codes, reading, shows_codes, writing
from driftstore.errors import BadMachine, BadNumber, BadRows, NoWay, TooMany
from driftstore.parts import keeps
from drawing import PRIMES, drawn_machine, drawn_row, unit
from trying_out import (
    forms_tried_out, meet, memories, one_tick, reached_tried_out, small_machines, unseen_tried_out,
)
from wrong_values import FAR_INTEGERS, NO_INTEGERS, NO_ROW_PARTS, WrongValueTests, put_in

SWAP = (2, ((0, 1), (1, 0)), ((1, 0),), ((1, 0),))
DEAF = (2, ((1,),), ((0,),), ((1,),))


def done(machine, deed, memory, hand):
    """Memory and hand behind a tick with a deed."""
    prime, _, writes, sights = machine
    word = deed[0]
    if word in ("get", "plus", "minus"):
        seen = meet(prime, sights[deed[1]], memory)
        hand = {"get": seen, "plus": hand + seen, "minus": hand - seen}[word] % prime
    elif word in ("add", "take"):
        sign = 1 if word == "add" else -1
        memory = tuple((a + sign * hand * b) % prime for a, b in zip(memory, writes[deed[1]]))
    elif word == "put":
        hand = deed[1]
    return one_tick(machine, memory), hand


def behind(machine, deeds, memory, hand):
    for deed in deeds:
        memory, hand = done(machine, deed, memory, hand)
    return memory, hand


def round_tried_out(machine):
    everything = memories(machine)
    now, ticks = [one_tick(machine, memory) for memory in everything], 1
    while now != everything:
        now, ticks = [one_tick(machine, memory) for memory in now], ticks + 1
    return ticks


def added(prime, hands, sign, seen):
    return tuple((hand + sign * number) % prime for hand, number in zip(hands, seen))


def least_reading(machine, form):
    """The least number of deeds of a reading, all rows of deeds tried out; None if there is none.

    Rows of deeds that leave the same hands at the same tick of the round are tried out as one.
    """
    prime, sights, ticks_of_round = machine[0], machine[3], round_tried_out(machine)
    # A hand that was 0 or 1 shows whether it matters what it was.
    starts = [(memory, hand) for memory in sorted(reached_tried_out(machine)) for hand in (0, 1)]
    wanted = tuple(meet(prime, form, memory) for memory, hand in starts)
    now, held = [tuple(hand for memory, hand in starts)], [memory for memory, hand in starts]
    met, count = {(0, now[0])}, 0
    while now:
        if wanted in now:
            return count
        count += 1
        seen = [tuple(meet(prime, sight, memory) for memory in held) for sight in sights]
        same = seen + [(number,) * len(starts) for number in range(prime)]
        then = []
        for hands in now:
            told = [hands] + same
            told += [added(prime, hands, sign, row) for sign in (1, -1) for row in seen]
            for row in told:
                if (count % ticks_of_round, row) not in met:
                    met.add((count % ticks_of_round, row))
                    then.append(row)
        now, held = then, [one_tick(machine, memory) for memory in held]
    return None


def least_writing(machine, column):
    """The least number of deeds of a writing, all rows of deeds tried out; None if there is none."""
    ticks_of_round, unseen = round_tried_out(machine), unseen_tried_out(machine)
    deeds = [("wait",)] + [(word, plug) for word in ("add", "take") for plug in range(len(machine[2]))]
    now, wanted, count = [(0,) * len(column)], column, 0
    met = {(0, now[0])}
    while now:
        if any(tuple((a - b) % machine[0] for a, b in zip(memory, wanted)) in unseen for memory in now):
            return count
        count += 1
        then = []
        for memory in now:
            for deed in deeds:
                told = done(machine, deed, memory, 1)[0]
                if (count % ticks_of_round, told) not in met:
                    met.add((count % ticks_of_round, told))
                    then.append(told)
        now, wanted = then, one_tick(machine, wanted)
    return None


class ReadingTests(unittest.TestCase):
    def assert_reads(self, machine, form, deeds):
        """The deeds are a reading of the form, of whatever length."""
        self.assertIs(type(deeds), tuple)
        for deed in deeds:
            self.assertIn(deed[0], ("get", "plus", "minus", "put", "wait"))
        for memory in reached_tried_out(machine):
            for hand in range(machine[0]):
                self.assertEqual(behind(machine, deeds, memory, hand)[1], meet(machine[0], form, memory))

    def test_the_example(self):
        self.assertEqual([len(reading(SWAP, (1, 0))), len(reading(SWAP, (0, 1)))], [1, 2])

    def test_shortest_of_all_rows_of_deeds(self):
        told = []
        for machine in small_machines(91, 160, 28):
            for form in memories(machine)[::2]:
                with self.subTest(machine=machine, form=form):
                    least = least_reading(machine, form)
                    told.append(least)
                    if least is None:
                        self.assertRaises(NoWay, reading, machine, form)
                    else:
                        deeds = reading(machine, form)
                        self.assert_reads(machine, form, deeds)
                        self.assertEqual(len(deeds), least)
        for least in (None, 1, 2, 3, 4):
            self.assertGreater(told.count(least), 10)

    def test_a_form_that_meets_all_that_can_be_reached_with_0(self):
        for machine, form in (
            (DEAF, (1,)), (SWAP, (0, 0)),
            ((3, unit(2), ((1, 2),), ((1, 0),)), (1, 1)), ((7, unit(2), ((0, 1),), ((1, 3),)), (4, 0)),
        ):
            deeds = reading(machine, form)
            self.assertEqual(len(deeds), 1)
            self.assert_reads(machine, form, deeds)

    def test_only_memories_that_can_be_reached_count(self):
        machine = (5, unit(3), ((1, 0, 0),), ((1, 2, 3),))
        for form in ((1, 0, 0), (1, 4, 4), (1, 2, 3)):
            self.assertEqual(len(reading(machine, form)), 1)
        self.assertEqual(len(reading(machine, (4, 1, 1))), 2)
        self.assertEqual(len(reading(machine, (2, 1, 1))), 2)
        self.assertEqual(len(reading(machine, (3, 0, 0))), 3)

    def test_the_negative_of_a_sight_needs_a_put_ahead(self):
        for prime in (3, 5, 7):
            deeds = reading((prime, unit(1), unit(1), unit(1)), (prime - 1,))
            self.assertEqual(deeds, (("put", 0), ("minus", 0)))

    def test_no_way(self):
        for machine, form in (
            ((2, unit(2), unit(2), ((1, 0),)), (0, 1)),
            ((2, unit(2), unit(2), ((1, 0),)), (1, 1)),
            ((7, unit(1), unit(1), ((0,),)), (3,)),
        ):
            self.assertRaises(NoWay, reading, machine, form)

    def test_large_machines(self):
        chance = random.Random(92)
        for _ in range(12):
            machine = drawn_machine(chance, (3, 5, 7), 4)
            form = drawn_row(chance, machine[0], len(machine[1]))
            try:
                deeds = reading(machine, form)
            except NoWay:
                continue
            reached = sorted(reached_tried_out(machine))[::13]
            for memory in reached:
                for hand in (0, 1, machine[0] - 1):
                    self.assertEqual(behind(machine, deeds, memory, hand)[1], meet(machine[0], form, memory))

    def test_more_than_20000_pairs(self):
        # No sum is the form of the last cell, so that all of 342 ticks and 343 sums are met.
        stir = ((0, 1, 0, 0), (0, 0, 1, 0), (3, 0, 1, 0), (0, 0, 0, 1))
        machine = (7, stir, ((1, 0, 0, 1),), ((1, 0, 0, 0),))
        self.assertGreater(343 * round_tried_out_by_units(machine), 20000)
        with self.assertRaises(TooMany) as caught:
            reading(machine, (0, 0, 0, 1))
        self.assertEqual(caught.exception.most, 20000)
        self.assertEqual(len(reading(machine, (0, 1, 0, 0))), 2)

    def test_as_many_pairs_as_may_be(self):
        # 8 ticks of the round and 2401 sums are 19208 pairs; with 9 of the ticks they were too many.
        stir = ((0, 1, 0, 0), (0, 0, 1, 0), (0, 0, 0, 1), (6, 0, 0, 0))
        machine = (7, stir, unit(4), ((1, 0, 0, 0),))
        self.assertEqual(round_tried_out_by_units(machine), 8)
        self.assertEqual(len(reading(machine, (3, 3, 3, 3))), 12)


def round_tried_out_by_units(machine):
    now, ticks = [one_tick(machine, row) for row in unit(len(machine[1]))], 1
    while tuple(now) != unit(len(machine[1])):
        now, ticks = [one_tick(machine, memory) for memory in now], ticks + 1
    return ticks


class WritingTests(unittest.TestCase):
    def assert_writes(self, machine, column, deeds):
        """The deeds are a writing of the column, of whatever length."""
        self.assertIs(type(deeds), tuple)
        unseen = unseen_tried_out(machine)
        for deed in deeds:
            self.assertIn(deed[0], ("add", "take", "wait"))
        for memory in memories(machine)[::5]:
            for hand in range(machine[0]):
                wanted = tuple((a + hand * b) % machine[0] for a, b in zip(memory, column))
                for _ in deeds:
                    wanted = one_tick(machine, wanted)
                then, kept_hand = behind(machine, deeds, memory, hand)
                self.assertIn(tuple((a - b) % machine[0] for a, b in zip(then, wanted)), unseen)
                self.assertEqual(kept_hand, hand)

    def test_the_example(self):
        self.assertEqual(len(writing(SWAP, (0, 1))), 2)

    def test_shortest_of_all_rows_of_deeds(self):
        told = []
        for machine in small_machines(93, 150, 82):
            for column in memories(machine)[::3]:
                with self.subTest(machine=machine, column=column):
                    least = least_writing(machine, column)
                    told.append(least)
                    if least is None:
                        self.assertRaises(NoWay, writing, machine, column)
                    else:
                        deeds = writing(machine, column)
                        self.assert_writes(machine, column, deeds)
                        self.assertEqual(len(deeds), least)
        for least in (None, 0, 1, 2, 3, 4):
            self.assertGreater(told.count(least), 10)

    def test_a_column_that_can_never_be_seen(self):
        machine = (5, unit(3), ((1, 0, 0),), ((0, 1, 0),))
        for column in ((0, 0, 0), (4, 0, 0), (0, 0, 1), (3, 0, 2)):
            self.assertEqual(writing(machine, column), ())
        self.assertRaises(NoWay, writing, machine, (0, 1, 0))

    def test_what_can_never_be_seen_is_passed_over(self):
        machine = (3, unit(2), ((1, 2),), ((1, 0),))
        for column in ((1, 0), (1, 1), (1, 2)):
            self.assertEqual(writing(machine, column), (("add", 0),))
        for column in ((2, 0), (2, 1), (2, 2)):
            self.assertEqual(writing(machine, column), (("take", 0),))

    def test_the_hand_times_the_column(self):
        machine = (7, unit(1), unit(1), unit(1))
        self.assertEqual([len(writing(machine, (k,))) for k in range(7)], [0, 1, 2, 3, 3, 2, 1])

    def test_no_way(self):
        self.assertRaises(NoWay, writing, DEAF, (1,))
        self.assertRaises(NoWay, writing, (2, unit(2), ((1, 0),), unit(2)), (1, 1))

    def test_large_machines(self):
        chance = random.Random(94)
        found = 0
        for _ in range(20):
            machine = drawn_machine(chance, (3, 5), 4)
            column = drawn_row(chance, machine[0], len(machine[1]))
            try:
                deeds = writing(machine, column)
            except NoWay:
                continue
            found += 1
            for sight in machine[3]:
                for hand in range(machine[0]):
                    then = behind(machine, deeds, (0,) * len(column), hand)[0]
                    wanted = tuple(hand * number % machine[0] for number in column)
                    for _ in deeds:
                        wanted = one_tick(machine, wanted)
                    for _ in range(9):
                        self.assertEqual(meet(machine[0], sight, then), meet(machine[0], sight, wanted))
                        then, wanted = one_tick(machine, then), one_tick(machine, wanted)
        self.assertGreater(found, 5)

    def test_more_than_20000_pairs(self):
        stir = ((0, 1, 0, 0), (0, 0, 1, 0), (3, 0, 1, 0), (0, 0, 0, 1))
        machine = (7, stir, ((1, 0, 0, 0),), ((1, 0, 0, 1),))
        with self.assertRaises(TooMany) as caught:
            writing(machine, (0, 0, 0, 1))
        self.assertEqual(caught.exception.most, 20000)
        self.assertEqual(writing(machine, (1, 0, 0, 0)), (("add", 0),))


class CodesTests(unittest.TestCase):
    def test_the_examples(self):
        self.assertIs(shows_codes(SWAP, 1, (((0, 1),), ((1, 1),))), True)
        self.assertRaises(NoWay, codes, DEAF, 1)

    def test_codes_are_shown(self):
        for machine in small_machines(95, 150, 10 ** 4):
            for values in (1, 2, 3, 4):
                with self.subTest(machine=machine, values=values):
                    if values > keeps(machine):
                        self.assertRaises(NoWay, codes, machine, values)
                    else:
                        found = codes(machine, values)
                        self.assertIs(shows_codes(machine, values, found), True)
                        self.assertEqual([len(rows) for rows in found], [values, values])

    def test_what_codes_are_by_the_words_of_the_document(self):
        for machine in small_machines(96, 60, 130):
            reached, forms_let = reached_tried_out(machine), forms_tried_out(machine)
            for values in range(1, keeps(machine) + 1):
                columns, forms = codes(machine, values)
                for at, column in enumerate(columns):
                    self.assertIn(column, reached)
                    self.assertIn(forms[at], forms_let)
                    told = [meet(machine[0], form, column) for form in forms]
                    self.assertEqual(told, [int(at == place) for place in range(values)])

    def test_all_pairs_of_a_column_and_a_form(self):
        for machine in small_machines(97, 60, 30):
            reached, forms_let = reached_tried_out(machine), forms_tried_out(machine)
            for column, form in itertools.product(memories(machine), repeat=2):
                told = column in reached and form in forms_let and meet(machine[0], form, column) == 1
                self.assertIs(shows_codes(machine, 1, ((column,), (form,))), told)

    def test_all_pairs_of_two_columns_and_two_forms(self):
        shown = 0
        for machine in small_machines(98, 40, 4):
            reached, forms_let = reached_tried_out(machine), forms_tried_out(machine)
            for one, two, first, second in itertools.product(memories(machine), repeat=4):
                prime = machine[0]
                told = {one, two} <= reached and {first, second} <= forms_let and (
                    [meet(prime, first, one), meet(prime, first, two)] == [1, 0]
                    and [meet(prime, second, one), meet(prime, second, two)] == [0, 1])
                self.assertIs(shows_codes(machine, 2, ((one, two), (first, second))), told)
                shown += told
        self.assertGreater(shown, 0)

    def test_what_is_out_of_reach_or_out_of_sight(self):
        machine = (2, unit(3), ((1, 0, 0), (0, 1, 0)), ((1, 0, 0), (0, 0, 1)))
        self.assertIs(shows_codes(machine, 1, (((1, 0, 0),), ((1, 0, 0),))), True)
        self.assertIs(shows_codes(machine, 1, (((1, 1, 0),), ((1, 0, 1),))), True)
        self.assertIs(shows_codes(machine, 1, (((1, 0, 1),), ((1, 0, 0),))), False)
        self.assertIs(shows_codes(machine, 1, (((1, 0, 0),), ((1, 1, 0),))), False)

    def test_unlike_orders(self):
        machine = (3, unit(2), unit(2), unit(2))
        self.assertIs(shows_codes(machine, 2, (((1, 0), (0, 1)), ((1, 0), (0, 1)))), True)
        self.assertIs(shows_codes(machine, 2, (((0, 1), (1, 0)), ((0, 1), (1, 0)))), True)
        self.assertIs(shows_codes(machine, 2, (((0, 1), (1, 0)), ((1, 0), (0, 1)))), False)
        self.assertIs(shows_codes(machine, 2, (((2, 0), (0, 1)), ((2, 0), (0, 1)))), True)
        self.assertIs(shows_codes(machine, 2, (((1, 0), (1, 1)), ((1, 2), (0, 1)))), True)
        self.assertIs(shows_codes(machine, 2, (((1, 0), (1, 1)), ((1, 0), (0, 1)))), False)
        self.assertIs(shows_codes(machine, 2, (((1, 0), (0, 1)), ((1, 2), (0, 1)))), False)

    def test_what_is_no_pair_of_tuples_of_rows(self):
        machine = (3, unit(2), unit(2), unit(2))
        good = (((1, 0), (0, 1)), ((1, 0), (0, 1)))
        wrong = [0, 1, list(good), good[:1], good + good[:1], good[0], dict(enumerate(good)), "good"]
        for value in NO_ROW_PARTS + wrong:
            self.assertIs(shows_codes(machine, 2, value), False)
        for place in (0, 1):
            for value in NO_ROW_PARTS + [0, 1, list(good[0]), good[0][:1], good[0] + ((0, 0),), {(1, 0): 0, (0, 1): 1}]:
                if value != good[0]:
                    self.assertIs(shows_codes(machine, 2, put_in(good, place, value)), False)
            for at in (0, 1):
                for value in NO_ROW_PARTS + [0, 1, list(good[0][at]), (1,), (1, 0, 0), "10", {1: 0, 0: 1}]:
                    self.assertIs(shows_codes(machine, 2, put_in(good, place, put_in(good[0], at, value))), False)
                for column in (0, 1):
                    for value in NO_ROW_PARTS + [3, 4, -1, True, False]:
                        row = put_in(good[0][at], column, value)
                        told = put_in(good, place, put_in(good[0], at, row))
                        self.assertIs(shows_codes(machine, 2, told), False)

    def test_numbers_modulo_the_prime(self):
        for prime in PRIMES:
            machine = (prime, unit(1), unit(1), unit(1))
            for column in range(-1, prime + 2):
                for form in range(-1, prime + 2):
                    told = 0 <= column < prime and 0 <= form < prime and column * form % prime == 1
                    self.assertIs(shows_codes(machine, 1, (((column,),), ((form,),))), told)

    def test_as_many_as_are_told(self):
        machine = (2, unit(4), unit(4), unit(4))
        for many in (1, 2, 3, 4):
            value = (unit(4)[:many], unit(4)[:many])
            for values in (1, 2, 3, 4):
                self.assertIs(shows_codes(machine, values, value), values == many)
            self.assertIs(shows_codes(machine, many, (unit(4)[:many], unit(4)[:many - 1])), False)
        self.assertIs(shows_codes(machine, 1, ((), ())), False)


class InterfaceTests(unittest.TestCase):
    def test_names_and_places(self):
        for function, names in (
            (reading, ["machine", "form"]), (writing, ["machine", "column"]), (codes, ["machine", "values"]),
            (shows_codes, ["machine", "values", "value"]),
        ):
            self.assertEqual(function.__module__, "driftstore.codes")
            self.assertEqual(list(inspect.signature(function).parameters), names)
            self.assertIs(getattr(module, function.__name__), function)

    def test_arguments_can_be_passed_by_name(self):
        self.assertEqual(reading(form=(1, 0), machine=SWAP), (("get", 0),))
        self.assertEqual(writing(column=(1, 0), machine=SWAP), (("add", 0),))
        self.assertIs(shows_codes(value=codes(values=2, machine=SWAP), values=2, machine=SWAP), True)

    def test_equal_arguments_have_equal_answers(self):
        for machine in small_machines(99, 20, 100):
            for form in memories(machine)[::5]:
                for function in (reading, writing):
                    try:
                        self.assertEqual(function(machine, form), function(machine, form))
                    except NoWay:
                        pass


class WrongInputTests(WrongValueTests, unittest.TestCase):
    def test_wrong_machines(self):
        calls = ((reading, (1, 0)), (writing, (1, 0)), (codes, 1), (shows_codes, 1, None))
        for function, *rest in calls:
            for machine in NO_ROW_PARTS + [list(SWAP), SWAP[:3]]:
                self.assert_raises_exactly(BadMachine, function, machine, *rest, part="machine")
            for at, part, value in (
                (0, "prime", 4), (1, "stir", ((1, 1), (1, 1))), (2, "writes", ()), (3, "sights", None),
            ):
                self.assert_raises_exactly(BadMachine, function, put_in(SWAP, at, value), *rest, part=part)

    def test_wrong_forms_and_columns(self):
        for function in (reading, writing):
            for row in NO_ROW_PARTS + [0, 1, "10", [1, 0], (1,), (1, 0, 0), {0: 1, 1: 0}, ((1, 0),), ((1, 0), (0, 1))]:
                self.assert_raises_exactly(BadRows, function, SWAP, row)
            for place in (0, 1):
                for value in NO_ROW_PARTS + [2, 3]:
                    self.assert_raises_exactly(BadRows, function, SWAP, put_in((1, 0), place, value))
            for prime in PRIMES:
                machine = (prime, unit(1), unit(1), unit(1))
                function(machine, (prime - 1,))
                for number in (-1, prime):
                    self.assert_raises_exactly(BadRows, function, machine, (number,))

    def test_wrong_numbers_of_values(self):
        for value in NO_INTEGERS + FAR_INTEGERS + [0, 5, 6]:
            self.assert_raises_exactly(BadNumber, codes, SWAP, value)
            self.assert_raises_exactly(BadNumber, shows_codes, SWAP, value, (((0, 1),), ((1, 1),)))

    def test_no_way_comes_behind_all_others(self):
        self.assert_raises_exactly(BadNumber, codes, DEAF, 5)
        self.assert_raises_exactly(NoWay, codes, DEAF, 1)
        self.assert_raises_exactly(NoWay, codes, SWAP, 3)
        self.assert_raises_exactly(NoWay, writing, DEAF, (1,))
        self.assert_raises_exactly(BadRows, writing, DEAF, (2,))

    def test_the_leftmost_error_is_raised(self):
        for function in (reading, writing):
            self.assert_raises_exactly(BadMachine, function, put_in(SWAP, 2, 0), None, part="writes")
        self.assert_raises_exactly(BadMachine, codes, None, 5, part="machine")
        self.assert_raises_exactly(BadMachine, shows_codes, None, 5, None, part="machine")
        self.assert_raises_exactly(BadNumber, shows_codes, SWAP, 5, None)


if __name__ == "__main__":
    unittest.main()
