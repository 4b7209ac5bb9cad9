"""The parts of a memory: what can be reached, what can never be seen, and what is both."""

from driftstore.fields import facing, staircase
from driftstore.machines import check_machine, stirred


def closure(prime, table, rows):
    """Return the staircase of what rows span together with all that a table makes of them."""
    steps = staircase(prime, rows)
    # A table of so many rows makes nothing new any more behind as many times.
    for _ in range(len(table)):
        steps = staircase(prime, steps + tuple([stirred(prime, table, step) for step in steps]))
    return steps


def reach(machine):
    """Return the staircase of all memories that can be reached."""
    prime, stir, writes, _ = machine
    return closure(prime, stir, writes)


def looks(machine):
    """Return the staircase of what tells, ahead, what sights will meet the memory with."""
    prime, stir, _, sights = machine
    return closure(prime, tuple(zip(*stir)), sights)


def dark(machine):
    """Return the staircase of all memories that can never be seen."""
    return facing(machine[0], looks(machine), len(machine[1]))


def gone(machine):
    """Return the staircase of all memories that can be reached and never be seen."""
    prime, cells = machine[0], len(machine[1])
    # What meets all that faces the reached ones with 0 is reached.
    return facing(prime, facing(prime, reach(machine), cells) + looks(machine), cells)


def clear_forms(machine, rows):
    """Return the staircase of the looks, and sums of multiples of them, that meet each of the rows with 0."""
    return facing(machine[0], dark(machine) + rows, len(machine[1]))


def told_number(machine):
    """Return how many values can be kept."""
    return len(reach(machine)) - len(gone(machine))


def reached(machine):
    """Return the staircase of all memories to which deeds can lead nought."""
    check_machine(machine)
    return reach(machine)


def unseen(machine):
    """Return the staircase of all memories that no sight ever meets with another number than 0."""
    check_machine(machine)
    return dark(machine)


def lost(machine):
    """Return the staircase of all memories that can be reached and can never be seen."""
    check_machine(machine)
    return gone(machine)


def keeps(machine):
    """Return the told number: the length of reached less that of lost."""
    check_machine(machine)
    return told_number(machine)
