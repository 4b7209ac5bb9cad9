"""Machines that answer alike: what sights meet writes with, some ticks later."""

from driftstore.checks import check_number
from driftstore.codes import codes, told_by
from driftstore.errors import BadMachine
from driftstore.machines import check_machine, stirred
from driftstore.parts import told_number

MOST_ANSWERS = 200


def answer_table(machine, writes):
    """Return for each sight the row of what it meets each of the writes, as they now are, with."""
    return tuple([told_by(machine[0], writes, sight) for sight in machine[3]])


def answer_tables(machine, ticks):
    """Return the tables of answers for 0, 1 and so on ticks less than that."""
    writes = machine[2]
    found = []
    for _ in range(ticks):
        found.append(answer_table(machine, writes))
        writes = tuple([stirred(machine[0], machine[1], write) for write in writes])
    return tuple(found)


def check_other(machine, other):
    """Raise BadMachine for what is no machine, or none with the same prime, and as many writes and sights."""
    check_machine(other)
    if machine[0] != other[0] or len(machine[2]) != len(other[2]) or len(machine[3]) != len(other[3]):
        raise BadMachine("other")


def answers(machine, ticks):
    """Return for 0, 1 and so on ticks less than that what each sight meets each write, so much later, with."""
    check_machine(machine)
    check_number(ticks, 0, MOST_ANSWERS)
    return answer_tables(machine, ticks)


def first_unlike(machine, other):
    """Return the first (ticks, sight, write) at which the answers of two machines differ, None if they never do."""
    check_machine(machine)
    check_other(machine, other)
    # Behind as many ticks as both have cells no answer can differ for the first time.
    ticks = len(machine[1]) + len(other[1])
    tables = answer_tables(machine, ticks)
    other_tables = answer_tables(other, ticks)
    for tick in range(ticks):
        for sight in range(len(machine[3])):
            for write in range(len(machine[2])):
                if tables[tick][sight][write] != other_tables[tick][sight][write]:
                    return tick, sight, write
    return None


def least_machine(machine):
    """Return a machine with as few cells as can be whose answers never differ, None if there needn't be a cell."""
    check_machine(machine)
    many = told_number(machine)
    if many == 0:
        return None
    prime, stir, writes, sights = machine
    columns, forms = codes(machine, many)
    # Each new cell holds what a form meets the memory with; the rest of the memory is of no matter to sights.
    moved = [stirred(prime, stir, column) for column in columns]
    return (
        prime,
        tuple([told_by(prime, moved, form) for form in forms]),
        tuple([told_by(prime, forms, write) for write in writes]),
        tuple([told_by(prime, columns, sight) for sight in sights]),
    )


def turned(machine):
    """Return the machine with the table's columns as rows, the sights as writes and the writes as sights."""
    check_machine(machine)
    prime, stir, writes, sights = machine
    return (prime, tuple(zip(*stir)), sights, writes)
