"""Hits: what is added to the memory, unseen, ahead of says, asks and zeros."""

from driftstore.checks import check_number, is_number, is_rows
from driftstore.codes import told_by
from driftstore.errors import BadRows, NoWay
from driftstore.fields import less, staircase
from driftstore.machines import MOST_TICKS, check_machine
from driftstore.parts import clear_forms, closure, reach
from driftstore.programs import check_kept, check_program, check_values, names_met
from driftstore.runs import check_inputs, run
from driftstore.walks import faults_met
from driftstore.writing import kept_through

MOST_HITS = 3
MOST_BLOWS = 40
MOST_MARKS = 100000


def check_hits(machine, hits):
    """Raise BadRows for what is no tuple of 1 to 3 rows of as many numbers as the machine has cells."""
    if not is_rows(machine[0], hits, MOST_HITS, len(machine[1])):
        raise BadRows()


def is_blow(machine, hits, value):
    """Tell whether a value is a triple of a mark's number, a hit's place and a factor."""
    if not isinstance(value, tuple) or len(value) != 3:
        return False
    mosts = (MOST_MARKS, len(hits) - 1, machine[0] - 1)
    return all([is_number(number, 0, most) for number, most in zip(value, mosts)])


def check_blows(machine, hits, blows):
    """Raise BadRows for what is no ascending tuple of at most 40 unlike blows."""
    if not isinstance(blows, tuple) or len(blows) > MOST_BLOWS:
        raise BadRows()
    if not all([is_blow(machine, hits, blow) for blow in blows]):
        raise BadRows()
    if not all([one < other for one, other in zip(blows, blows[1:])]):
        raise BadRows()


def strikes(machine, hits, blows):
    """Return for the numbers of the marks that are struck what is added to the memory ahead of them."""
    found = {}
    for number, hit, factor in blows:
        before = found.get(number, (0,) * len(machine[1]))
        found[number] = less(machine[0], before, -factor, hits[hit])
    return found


def told_despite(machine, hits):
    """Return how many values can be kept whatever hits come."""
    memories = reach(machine)
    told = [told_by(machine[0], memories, form) for form in clear_forms(machine, hits)]
    return len(staircase(machine[0], told))


def struck(machine, hits):
    """Return the staircase of all that hits alone, stirred on, can come to."""
    check_machine(machine)
    check_hits(machine, hits)
    return closure(machine[0], machine[1], hits)


def keeps_despite(machine, hits):
    """Return how many values can be kept whatever hits come.

    The prime to this power is the number of unlike ways in which forms that meet all hits with 0 can meet the
    memories that can be reached.
    """
    check_machine(machine)
    check_hits(machine, hits)
    return told_despite(machine, hits)


def kept_despite(machine, hits, values, program):
    """Return a kept program that carries a program whatever hits come."""
    check_machine(machine)
    check_hits(machine, hits)
    check_values(values)
    check_program(machine[0], values, program)
    if len(names_met(program)) > told_despite(machine, hits):
        raise NoWay()
    return kept_through(machine, hits, program)


def faults_despite(machine, hits, values, program, kept):
    """Return the ascending tuple of what keeps a kept program from carrying a program whatever hits come."""
    check_machine(machine)
    check_hits(machine, hits)
    check_values(values)
    check_program(machine[0], values, program)
    check_kept(machine, kept)
    return faults_met(machine, hits, values, program, kept)


def run_hit(machine, hits, program, inputs, most, blows):
    """Return (said, word, ticks) of a run of a kept program from nought with told hits."""
    check_machine(machine)
    check_hits(machine, hits)
    check_kept(machine, program)
    check_inputs(machine[0], inputs)
    check_number(most, 0, MOST_TICKS)
    check_blows(machine, hits, blows)
    return run(machine, program, inputs, most, (0,) * len(machine[1]), strikes(machine, hits, blows))
