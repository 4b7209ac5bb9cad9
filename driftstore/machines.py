"""Machines, their memories, and the stirring."""

from driftstore.checks import check_number, is_prime, is_row, is_rows
from driftstore.errors import BadMachine, BadMemory
from driftstore.fields import meet, staircase

MOST_CELLS = 4
MOST_PLUGS = 4
MOST_TICKS = 100000


def is_stir(prime, value):
    """Tell whether a value is a table of 1 to 4 rows, as wide as high, that can be undone."""
    if not isinstance(value, tuple) or not is_rows(prime, value, MOST_CELLS, len(value)):
        return False
    return len(staircase(prime, value)) == len(value)


def wrong_part(machine):
    """Return the first word for what is wrong with a machine, None if nothing is."""
    if not isinstance(machine, tuple) or len(machine) != 4:
        return "machine"
    prime, stir, writes, sights = machine
    if not is_prime(prime):
        return "prime"
    if not is_stir(prime, stir):
        return "stir"
    if not is_rows(prime, writes, MOST_PLUGS, len(stir)):
        return "writes"
    if not is_rows(prime, sights, MOST_PLUGS, len(stir)):
        return "sights"
    return None


def check_machine(machine):
    """Raise BadMachine for what is no machine."""
    part = wrong_part(machine)
    if part is not None:
        raise BadMachine(part)


def check_memory(machine, memory):
    """Raise BadMemory for what is no memory of a machine."""
    if not is_row(machine[0], memory, len(machine[1])):
        raise BadMemory()


def stirred(prime, stir, memory):
    """Return a memory as one tick leaves it."""
    return tuple([meet(prime, row, memory) for row in stir])


def stirred_by_both(prime, one, other):
    """Return the table that stirs as another table and then one table do."""
    columns = [stirred(prime, one, column) for column in zip(*other)]
    return tuple(zip(*columns))


def still(cells):
    """Return the table that leaves every memory as it is."""
    return tuple([tuple([1 if row == column else 0 for column in range(cells)]) for row in range(cells)])


def still_machine(prime, values):
    """Return the machine whose cells are the values, each written and seen alone, never stirred."""
    cells = still(values)
    return (prime, cells, cells, cells)


def undone(prime, stir):
    """Return the table that undoes a table."""
    cells = len(stir)
    # Beside the table as it becomes the still one, the still one becomes what undoes it.
    steps = staircase(prime, [row + unmoved for row, unmoved in zip(stir, still(cells))])
    return tuple([step[cells:] for step in steps])


def stirred_often(prime, stir, ticks):
    """Return the table that stirs as a table that stirs so many times."""
    table = still(len(stir))
    while ticks > 0:
        if ticks % 2 == 1:
            table = stirred_by_both(prime, stir, table)
        stir = stirred_by_both(prime, stir, stir)
        ticks = ticks // 2
    return table


def behind_ticks(machine, memory, ticks):
    """Return the memory behind so many ticks, without a deed."""
    check_machine(machine)
    check_memory(machine, memory)
    check_number(ticks, 0, MOST_TICKS)
    return stirred(machine[0], stirred_often(machine[0], machine[1], ticks), memory)


def turns(machine):
    """Return the round of a machine: behind so many ticks every memory is as it was."""
    check_machine(machine)
    prime, stir = machine[0], machine[1]
    unmoved = still(len(stir))
    table = stir
    ticks = 1
    while table != unmoved:
        table = stirred_by_both(prime, stir, table)
        ticks += 1
    return ticks
