"""Codes: how values stand in a memory, and the rows of deeds that read and write them."""

from driftstore.checks import is_row, is_rows
from driftstore.errors import BadRows, NoWay
from driftstore.fields import meet, remainder, staircase, with_row
from driftstore.machines import check_machine, still, turns, undone
from driftstore.parts import looks, reach, told_number
from driftstore.programs import check_values
from driftstore.searches import Plugs, Search


def check_row(machine, row):
    """Raise BadRows for what is no row of as many numbers as the machine has cells."""
    if not is_row(machine[0], row, len(machine[1])):
        raise BadRows()


def told_by(prime, rows, other):
    """Return what each of the rows meets another one with."""
    return tuple([meet(prime, row, other) for row in rows])


def sight_search(machine, ticks_of_round, memories, words):
    """Return the search for what sights meet these memories with, all multiples of which may stand there."""
    prime, stir, _, sights = machine
    return Search(Plugs(prime, tuple(zip(*stir)), sights, memories, words), ticks_of_round)


def get_deeds(machine, ticks_of_round, memories, wanted):
    """Return shortest deeds behind which the hand, whatever it was, is what is wanted of the memories."""
    return sight_search(machine, ticks_of_round, memories, ("plus", "minus")).from_any_hand(wanted)


def join_deeds(machine, ticks_of_round, memories, wanted, words):
    """Return shortest deeds behind which what is wanted of the memories has been added to the hand.

    With the words minus and plus it has been taken from it.
    """
    return sight_search(machine, ticks_of_round, memories, words).from_this_hand(wanted)


def write_deeds(machine, ticks_of_round, forms, column, words):
    """Return shortest deeds that are, to the forms, as if at first the hand times the column had been added.

    With the words take and add it is as if it had been taken away.
    """
    prime, stir, writes, _ = machine
    # What a later tick writes has been stirred less often: it counts as what would have become of it.
    plugs = Plugs(prime, undone(prime, stir), writes, forms, words)
    return Search(plugs, ticks_of_round).from_this_hand(told_by(prime, forms, column))


def apart_columns(prime, forms, columns, many):
    """Return the first so many of the columns that forms tell apart, fewer if there are no more."""
    steps = ()
    found = []
    for column in columns:
        larger = with_row(prime, steps, told_by(prime, forms, column))
        if len(larger) > len(steps) and len(found) < many:
            found.append(column)
            steps = larger
    return tuple(found)


def forms_for(prime, forms, columns):
    """Return sums of multiples of the forms that each meet one of the columns with 1, the others with 0."""
    # As the forms tell the columns apart, the first steps begin with the rows of one 1.
    steps = staircase(prime, [told_by(prime, columns, form) + form for form in forms])
    return tuple([step[len(columns):] for step in steps[:len(columns)]])


def reading(machine, form):
    """Return a shortest tuple of deeds behind which the hand is what a form met the memory with."""
    check_machine(machine)
    check_row(machine, form)
    memories = reach(machine)
    return get_deeds(machine, turns(machine), memories, told_by(machine[0], memories, form))


def writing(machine, column):
    """Return a shortest tuple of deeds that are as if the hand times a column had been added at first."""
    check_machine(machine)
    check_row(machine, column)
    return write_deeds(machine, turns(machine), looks(machine), column, ("add", "take"))


def codes(machine, values):
    """Return codes of so many values: the columns that write them and the forms that read them."""
    check_machine(machine)
    check_values(values)
    if values > told_number(machine):
        raise NoWay()
    forms = looks(machine)
    columns = apart_columns(machine[0], forms, reach(machine), values)
    return columns, forms_for(machine[0], forms, columns)


def are_spanned(prime, steps, rows):
    """Tell whether a staircase spans each of the rows."""
    return not any([any(remainder(prime, steps, row)) for row in rows])


def shows_codes(machine, values, value):
    """Tell whether a value is codes of so many values."""
    check_machine(machine)
    check_values(values)
    prime, cells = machine[0], len(machine[1])
    if not isinstance(value, tuple) or len(value) != 2:
        return False
    if not all([is_rows(prime, rows, values, cells) for rows in value]):
        return False
    columns, forms = value
    if not are_spanned(prime, reach(machine), columns) or not are_spanned(prime, looks(machine), forms):
        return False
    units = tuple([told_by(prime, columns, form) for form in forms])
    return units == still(values)
