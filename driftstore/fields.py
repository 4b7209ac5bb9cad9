"""Rows of numbers modulo a prime, and what they span.

The functions above `stairs` take rows that are known to be right, of any
number, so that other modules can use them on more than 12 rows or on none.
"""

from driftstore.checks import check_prime, check_rows


def meet(prime, one, other):
    """Return what two rows meet with: the sum of the products of their numbers."""
    return sum([a * b for a, b in zip(one, other)]) % prime


def inverse(prime, number):
    """Return what makes 1 of a number other than 0 by multiplication."""
    found = 1
    while found * number % prime != 1:
        found += 1
    return found


def times(prime, factor, row):
    """Return a multiple of a row."""
    return tuple([factor * number % prime for number in row])


def less(prime, row, factor, other):
    """Return a row with a multiple of another one taken from it."""
    return tuple([(a - factor * b) % prime for a, b in zip(row, other)])


def first_place(row):
    """Return the place of the first number that isn't 0, the row's length for noughts alone."""
    for place, number in enumerate(row):
        if number != 0:
            return place
    return len(row)


def remainder(prime, steps, row):
    """Return what is left of a row behind the steps of a staircase: noughts if they span it."""
    for step in steps:
        row = less(prime, row, row[first_place(step)], step)
    return row


def with_row(prime, steps, row):
    """Return the staircase of the steps of a staircase and one more row."""
    rest = remainder(prime, steps, row)
    place = first_place(rest)
    if place == len(rest):
        return steps
    step = times(prime, inverse(prime, rest[place]), rest)
    cleared = tuple([less(prime, old, old[place], step) for old in steps])
    return tuple(sorted(cleared + (step,), key=first_place))


def staircase(prime, rows):
    """Return the staircase of rows, () for none."""
    steps = ()
    for row in rows:
        steps = with_row(prime, steps, row)
    return steps


def facing_row(prime, steps, width, place):
    """Return the row that meets all steps with 0 and has 1 at a place where no step begins.

    Where no step begins, its other numbers are 0.
    """
    numbers = [0] * width
    numbers[place] = 1
    for step in steps:
        numbers[first_place(step)] = -step[place] % prime
    return tuple(numbers)


def facing(prime, rows, width):
    """Return the staircase of all rows of so many numbers that meet each of the rows with 0."""
    steps = staircase(prime, rows)
    begun = [first_place(step) for step in steps]
    free = [place for place in range(width) if place not in begun]
    return staircase(prime, [facing_row(prime, steps, width, place) for place in free])


def stairs(prime, rows):
    """Return the staircase of rows modulo a prime, () for noughts alone."""
    check_prime(prime)
    check_rows(prime, rows)
    return staircase(prime, rows)


def rank(prime, rows):
    """Return the length of the staircase of rows."""
    check_prime(prime)
    check_rows(prime, rows)
    return len(staircase(prime, rows))


def against(prime, rows):
    """Return the staircase of all rows that meet each of the rows with 0."""
    check_prime(prime)
    check_rows(prime, rows)
    return facing(prime, rows, len(rows[0]))
