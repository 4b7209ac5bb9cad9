"""Tests of driftstore.fields (points 1 and 2)."""

import inspect
import itertools
import unittest

from driftstore import fields
from driftstore.errors import BadNumber, BadRows
from driftstore.fields import against, rank, stairs
from wrong_values import FAR_INTEGERS, NO_INTEGERS, NO_ROW_PARTS, WrongValueTests, put_in

FUNCTIONS = (stairs, rank, against)
PRIMES = (2, 3, 5, 7)


def meet(prime, one, other):
    return sum(a * b for a, b in zip(one, other)) % prime


def span(prime, rows, width):
    """All sums of multiples of rows, one by one."""
    found = {(0,) * width}
    for row in rows:
        found = {
            tuple((a + factor * b) % prime for a, b in zip(old, row))
            for old in found for factor in range(prime)
        }
    return found


def all_meeting(prime, rows, width):
    """All rows that meet each of the rows with 0, one by one."""
    return {
        row for row in itertools.product(range(prime), repeat=width)
        if all(meet(prime, row, other) == 0 for other in rows)
    }


def some_rows(seed, prime, many, width):
    """Rows that look like chance and are the same at each run."""
    numbers = []
    for _ in range(many * width):
        seed = (seed * 1103515245 + 12345) % 2 ** 31
        numbers.append(seed // 65536 % prime)
    return tuple(tuple(numbers[k * width:(k + 1) * width]) for k in range(many))


def samples():
    """Pairs of a prime and rows that are small enough to list all that they span."""
    found = []
    for prime, widest, most in ((2, 6, 12), (3, 4, 6), (5, 3, 5), (7, 3, 4)):
        for width in range(1, widest + 1):
            for many in range(1, most + 1):
                found += [(prime, some_rows(100 * many + seed, prime, many, width)) for seed in (1, 2, 3)]
    # Rows of little rank hardly ever come by themselves.
    found += [
        (2, ((0, 1, 1), (0, 1, 1), (0, 0, 0))),
        (3, ((0, 0, 2, 1), (0, 0, 1, 2), (0, 0, 2, 1))),
        (5, ((0, 0, 4), (0, 3, 1), (0, 1, 2))),
        (7, ((0, 6, 3), (0, 1, 4), (2, 0, 0))),
        (7, ((3, 6, 2),)),
    ]
    return found


class StaircaseTests(unittest.TestCase):
    def assert_is_staircase(self, prime, steps, width):
        self.assertIs(type(steps), tuple)
        firsts = []
        for step in steps:
            self.assertIs(type(step), tuple)
            self.assertEqual(len(step), width)
            self.assertTrue(all(type(number) is int and 0 <= number < prime for number in step))
            firsts.append(min(place for place in range(width) if step[place] != 0))
        self.assertEqual(firsts, sorted(set(firsts)))
        for step, first in zip(steps, firsts):
            self.assertEqual([step[place] for place in firsts], [int(place == first) for place in firsts])

    def test_the_example(self):
        rows = ((1, 2, 0), (2, 1, 0), (0, 0, 2))
        self.assertEqual(stairs(3, rows), ((1, 2, 0), (0, 0, 1)))
        self.assertEqual(rank(3, rows), 2)
        self.assertEqual(against(3, rows), ((1, 1, 0),))

    def test_stairs_span_what_the_rows_span(self):
        for prime, rows in samples():
            with self.subTest(prime=prime, rows=rows):
                steps = stairs(prime, rows)
                self.assert_is_staircase(prime, steps, len(rows[0]))
                self.assertEqual(span(prime, steps, len(rows[0])), span(prime, rows, len(rows[0])))

    def test_rank_is_the_number_of_steps(self):
        for prime, rows in samples():
            with self.subTest(prime=prime, rows=rows):
                self.assertEqual(prime ** rank(prime, rows), len(span(prime, rows, len(rows[0]))))

    def test_against_is_the_staircase_of_all_that_meet_with_0(self):
        for prime, rows in samples():
            with self.subTest(prime=prime, rows=rows):
                width = len(rows[0])
                steps = against(prime, rows)
                self.assert_is_staircase(prime, steps, width)
                self.assertEqual(span(prime, steps, width), all_meeting(prime, rows, width))

    def test_one_row_is_divided_by_its_first_number(self):
        for prime in PRIMES:
            for number in range(1, prime):
                with self.subTest(prime=prime, number=number):
                    self.assertEqual(stairs(prime, ((0, number, number),)), ((0, 1, 1),))
        self.assertEqual(stairs(7, ((0, 3, 5),)), ((0, 1, 4),))
        self.assertEqual(stairs(5, ((2, 4, 1),)), ((1, 2, 3),))

    def test_places_of_first_numbers_are_cleared_above_and_below(self):
        self.assertEqual(stairs(5, ((0, 1, 3), (1, 4, 0))), ((1, 0, 3), (0, 1, 3)))
        self.assertEqual(stairs(2, ((1, 1, 1), (1, 1, 0), (0, 0, 1))), ((1, 1, 0), (0, 0, 1)))

    def test_the_prime_matters(self):
        rows = ((1, 1), (1, 0), (0, 1))
        for prime in PRIMES:
            self.assertEqual(stairs(prime, rows), ((1, 0), (0, 1)))
        self.assertEqual([rank(prime, ((1, 1), (1, 0))) for prime in PRIMES], [2, 2, 2, 2])
        self.assertEqual([rank(prime, ((1, 2), (2, 1))) for prime in (3, 5, 7)], [1, 2, 2])
        self.assertEqual([rank(prime, ((1, 3), (2, 1))) for prime in (5, 7)], [1, 2])
        self.assertEqual(rank(7, ((1, 3), (5, 1))), 1)

    def test_noughts_alone(self):
        for prime in PRIMES:
            for many, width in ((1, 1), (1, 12), (12, 1), (12, 12), (3, 4)):
                rows = ((0,) * width,) * many
                unit = tuple(tuple(int(a == b) for b in range(width)) for a in range(width))
                with self.subTest(prime=prime, many=many, width=width):
                    self.assertEqual(stairs(prime, rows), ())
                    self.assertEqual(rank(prime, rows), 0)
                    self.assertEqual(against(prime, rows), unit)

    def test_rows_that_span_everything(self):
        for prime in PRIMES:
            for width in (1, 4, 12):
                unit = tuple(tuple(int(a == b) for b in range(width)) for a in range(width))
                rows = tuple(tuple((prime - 1) * number for number in row) for row in reversed(unit))
                with self.subTest(prime=prime, width=width):
                    self.assertEqual(stairs(prime, rows), unit)
                    self.assertEqual(rank(prime, rows), width)
                    self.assertEqual(against(prime, rows), ())

    def test_one_and_twelve_rows_and_numbers(self):
        for prime in PRIMES:
            for many, width in ((1, 1), (1, 12), (12, 1), (12, 12), (5, 12), (12, 7)):
                rows = some_rows(9 * many + width, prime, many, width)
                with self.subTest(prime=prime, many=many, width=width):
                    steps, facing = stairs(prime, rows), against(prime, rows)
                    self.assert_is_staircase(prime, steps, width)
                    self.assert_is_staircase(prime, facing, width)
                    self.assertEqual(rank(prime, rows), len(steps))
                    self.assertEqual(len(steps) + len(facing), width)
                    self.assertEqual(stairs(prime, steps + rows[:12 - len(steps)]), steps)
                    for row in rows:
                        self.assertTrue(all(meet(prime, row, other) == 0 for other in facing))

    def test_against_twice_is_the_staircase(self):
        for prime, rows in samples():
            facing = against(prime, rows)
            if facing:
                self.assertEqual(against(prime, facing) or (), stairs(prime, rows))

    def test_order_and_repetition_do_not_matter(self):
        rows = some_rows(5, 5, 4, 6)
        for turned in itertools.permutations(rows):
            self.assertEqual(stairs(5, turned + rows), stairs(5, rows))

    def test_equal_arguments_have_equal_answers(self):
        rows = some_rows(6, 7, 5, 5)
        copied = tuple(tuple(list(row)) for row in rows)
        for function in FUNCTIONS:
            self.assertEqual(function(7, rows), function(7, copied))
            self.assertEqual(rows, copied)


class InterfaceTests(unittest.TestCase):
    def test_names_and_places(self):
        for function in FUNCTIONS:
            self.assertEqual(function.__module__, "driftstore.fields")
            self.assertEqual(list(inspect.signature(function).parameters), ["prime", "rows"])
            self.assertIs(getattr(fields, function.__name__), function)

    def test_arguments_can_be_passed_by_name(self):
        self.assertEqual(stairs(rows=((2,),), prime=3), ((1,),))
        self.assertEqual(rank(rows=((2,),), prime=3), 1)
        self.assertEqual(against(rows=((2,),), prime=3), ())


class WrongInputTests(WrongValueTests, unittest.TestCase):
    def test_the_example(self):
        self.assert_raises_exactly(BadNumber, rank, 4, ((1,),))

    def test_only_the_four_primes(self):
        for function in FUNCTIONS:
            for prime in [k for k in range(-8, 30) if k not in PRIMES] + FAR_INTEGERS + NO_INTEGERS:
                self.assert_raises_exactly(BadNumber, function, prime, ((1,),))

    def test_true_and_false_are_no_primes_and_no_numbers(self):
        for function in FUNCTIONS:
            for truth in (True, False):
                self.assert_raises_exactly(BadNumber, function, truth, ((1,),))
                self.assert_raises_exactly(BadRows, function, 2, ((truth,),))
                self.assert_raises_exactly(BadRows, function, 3, ((1, 2), (0, truth)))

    def test_what_is_no_tuple_of_rows(self):
        wrong = [value for value in NO_ROW_PARTS + [0, 1, 2] if value not in (((1,),), ((1, 0), (0, 1)))]
        for function in FUNCTIONS:
            for value in wrong:
                self.assert_raises_exactly(BadRows, function, 2, value)

    def test_lists_and_dicts_in_the_place_of_tuples(self):
        for function in FUNCTIONS:
            for rows in ([(1, 0)], ([1, 0],), ((1, 0), [0, 1]), {(1, 0): 1}, ({1: 0},), ((1, 0), {0: 1, 1: 1})):
                self.assert_raises_exactly(BadRows, function, 3, rows)
            for rows in ("10", ("10",), ((1, 0), "10")):
                self.assert_raises_exactly(BadRows, function, 3, rows)

    def test_what_is_no_row(self):
        rows = ((1, 0, 2), (0, 1, 1), (2, 2, 0))
        for function in FUNCTIONS:
            for place in range(3):
                for value in NO_ROW_PARTS + [0, 1, 2]:
                    self.assert_raises_exactly(BadRows, function, 3, put_in(rows, place, value))

    def test_what_is_no_number_in_a_row(self):
        rows = ((1, 0, 2), (0, 1, 1))
        for function in FUNCTIONS:
            for place in range(2):
                for column in range(3):
                    for value in NO_ROW_PARTS:
                        wrong = put_in(rows, place, put_in(rows[place], column, value))
                        self.assert_raises_exactly(BadRows, function, 3, wrong)

    def test_numbers_from_0_to_the_prime_less_1(self):
        for function in FUNCTIONS:
            for prime in PRIMES:
                function(prime, ((0, prime - 1),))
                for number in (-1, prime, prime + 1, -prime):
                    self.assert_raises_exactly(BadRows, function, prime, ((0, number),))
                    self.assert_raises_exactly(BadRows, function, prime, ((0, 0), (number, 0)))

    def test_rows_of_unlike_lengths(self):
        for function in FUNCTIONS:
            for rows in (((1,), (1, 0)), ((1, 0), (1,)), ((1, 0), (0, 1), (1, 0, 0)), ((1,), ()), ((), (1,))):
                self.assert_raises_exactly(BadRows, function, 2, rows)

    def test_one_to_twelve_rows_of_one_to_twelve_numbers(self):
        for function in FUNCTIONS:
            for many, width in ((1, 1), (12, 1), (1, 12), (12, 12)):
                function(2, ((1,) * width,) * many)
            for many, width in ((0, 1), (13, 1), (13, 12), (1, 0), (1, 13), (12, 13), (12, 0), (40, 40)):
                self.assert_raises_exactly(BadRows, function, 2, ((1,) * width,) * many)

    def test_the_leftmost_error_is_raised(self):
        for function in FUNCTIONS:
            for prime in (4, 0, True, None, "2", (2,), [2], {2: 2}):
                for rows in ((), None, 5, "rows", [], {}, ((1, True),), ((9,),), ((1,) * 13,)):
                    self.assert_raises_exactly(BadNumber, function, prime, rows)


if __name__ == "__main__":
    unittest.main()
