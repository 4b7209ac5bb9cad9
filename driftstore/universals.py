"""All programs at once: machines that keep each of them, and the hardest of them."""

from driftstore.checks import check_prime
from driftstore.machines import check_machine, still_machine
from driftstore.parts import told_number
from driftstore.programs import check_values


def keeps_all(machine, values):
    """Return whether for every program with so many values some kept program carries it."""
    check_machine(machine)
    check_values(values)
    return values <= told_number(machine)


def hardest(values):
    """Return the program that has a kept one exactly if every program with so many values has."""
    check_values(values)
    found = []
    for value in range(values):
        found.extend([("ask",), ("add", value)])
    found.extend([("ask",), ("zero", 2 * values)])
    for value in range(values):
        found.extend([("get", value), ("say",)])
    return tuple(found)


def echo(prime, values):
    """Return the machine whose cells are the values, each written and seen alone, never stirred."""
    check_prime(prime)
    check_values(values)
    return still_machine(prime, values)
