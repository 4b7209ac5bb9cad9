"""Programs and kept programs: what they must be like, and where runs of them go on."""

from driftstore.checks import check_number, check_prime, is_number
from driftstore.errors import BadProgram

MOST_VALUES = 4
MOST_INSTRUCTIONS = 20
MOST_KEPT = 6000
MARKS = ("say", "ask", "zero")
SEEING = ("get", "plus", "minus")
WRITING = ("add", "take")
BARE_WORDS = ("say", "ask", "stop")
KEPT_BARE_WORDS = ("say", "ask", "stop", "wait")


def most_numbers(prime, sights, writes, many):
    """Return for each word that has a number the most that the number may be."""
    return {
        "get": sights - 1, "plus": sights - 1, "minus": sights - 1,
        "add": writes - 1, "take": writes - 1,
        "put": prime - 1, "zero": many, "go": many,
    }


def is_instruction(value, numbers, bare_words):
    """Tell whether a value is a bare word, or a word with a number that it may have."""
    if not isinstance(value, tuple) or len(value) == 0 or not isinstance(value[0], str):
        return False
    if len(value) == 1:
        return value[0] in bare_words
    if len(value) != 2 or value[0] not in numbers:
        return False
    return is_number(value[1], 0, numbers[value[0]])


def check_many(program, most):
    """Raise BadProgram for what is no tuple of 1 to most."""
    if not isinstance(program, tuple) or not 1 <= len(program) <= most:
        raise BadProgram(None)


def check_instructions(program, numbers, bare_words):
    """Raise BadProgram with the place of the first that is no instruction."""
    for place, instruction in enumerate(program):
        if not is_instruction(instruction, numbers, bare_words):
            raise BadProgram(place)


def check_values(values):
    """Raise BadNumber for what is no number of values."""
    check_number(values, 1, MOST_VALUES)


def check_program(prime, values, program):
    """Raise BadProgram for what is no program with so many values."""
    check_many(program, MOST_INSTRUCTIONS)
    check_instructions(program, most_numbers(prime, values, values, len(program)), BARE_WORDS)


def check_kept(machine, kept):
    """Raise BadProgram for what is no kept program of a machine."""
    check_many(kept, MOST_KEPT)
    numbers = most_numbers(machine[0], len(machine[3]), len(machine[2]), len(kept))
    check_instructions(kept, numbers, KEPT_BARE_WORDS)


def landings(program):
    """Return for each place, the end included, the place of the instruction with which it goes on.

    Gos are followed. The end stands for a stop, and for gos that never come to another instruction.
    """
    end = len(program)
    found = {end: end}
    for first in range(end):
        place = first
        gos = []
        while place not in found:
            word = program[place][0]
            # The end holds until a go has been followed: gos that come back to it never leave.
            found[place] = end if word in ("go", "stop") else place
            if word == "go":
                gos.append(place)
                place = program[place][1]
        for go in gos:
            found[go] = found[place]
    return [found[place] for place in range(end + 1)]


def nexts(program, lands, place):
    """Return where it can go on behind an instruction: the next place, and a zero's other one."""
    if program[place][0] == "zero":
        return [lands[place + 1], lands[program[place][1]]]
    return [lands[place + 1]]


def places_met(program):
    """Return the ascending places to which it can come if each zero may go either way.

    Those of gos and stops, and the end, are not among them.
    """
    lands = landings(program)
    found = {}
    waiting = [lands[0]]
    while waiting:
        place = waiting.pop()
        if place < len(program) and place not in found:
            found[place] = True
            waiting.extend(nexts(program, lands, place))
    return sorted(found)


def names_met(program):
    """Return the ascending tuple of the values that the instructions met name."""
    met = [program[place] for place in places_met(program)]
    return tuple(sorted({deed[1] for deed in met if deed[0] in SEEING or deed[0] in WRITING}))


def used(prime, values, program):
    """Return the ascending tuple of the values that some instruction to which it can come names."""
    check_prime(prime)
    check_values(values)
    check_program(prime, values, program)
    return names_met(program)
