"""What numbers and rows must be like."""

from driftstore.errors import BadNumber, BadRows

PRIMES = (2, 3, 5, 7)
MOST_ROWS = 12
MOST_WIDTH = 12


def is_number(value, least, most):
    """Tell whether a value is an integer from least to most."""
    # Python counts True and False as integers; here they are none.
    if isinstance(value, bool) or not isinstance(value, int):
        return False
    return least <= value <= most


def is_prime(value):
    """Tell whether a value is one of the four primes."""
    return is_number(value, 2, 7) and value in PRIMES


def is_row(prime, value, width):
    """Tell whether a value is a row of so many numbers modulo the prime."""
    if not isinstance(value, tuple) or len(value) != width:
        return False
    return all([is_number(number, 0, prime - 1) for number in value])


def is_rows(prime, value, most, width):
    """Tell whether a value is a tuple of 1 to most rows of so many numbers."""
    if not isinstance(value, tuple) or not 1 <= len(value) <= most:
        return False
    return all([is_row(prime, row, width) for row in value])


def check_number(value, least, most):
    """Raise BadNumber for what is no integer from least to most."""
    if not is_number(value, least, most):
        raise BadNumber()


def check_prime(prime):
    """Raise BadNumber for what is none of the four primes."""
    if not is_prime(prime):
        raise BadNumber()


def check_rows(prime, rows):
    """Raise BadRows for what is no tuple of 1 to 12 rows of 1 to 12 numbers."""
    if not isinstance(rows, tuple) or len(rows) == 0 or not isinstance(rows[0], tuple):
        raise BadRows()
    width = len(rows[0])
    if not 1 <= width <= MOST_WIDTH or not is_rows(prime, rows, MOST_ROWS, width):
        raise BadRows()
