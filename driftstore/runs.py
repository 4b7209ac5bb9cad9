"""Runs of programs: on a memory that stirs itself, and on a still one."""

from driftstore.checks import check_number, check_prime, is_number
from driftstore.errors import BadInputs
from driftstore.fields import less, meet
from driftstore.machines import MOST_TICKS, check_machine, check_memory, still_machine, stirred
from driftstore.programs import MARKS, check_kept, check_program, check_values, landings

MOST_INPUTS = 50


def check_inputs(prime, inputs):
    """Raise BadInputs for what is no tuple of at most 50 numbers modulo the prime."""
    if not isinstance(inputs, tuple) or len(inputs) > MOST_INPUTS:
        raise BadInputs()
    if not all([is_number(number, 0, prime - 1) for number in inputs]):
        raise BadInputs()


def done(machine, deed, memory, hand):
    """Return the memory and the hand as a deed leaves them, ahead of the stirring."""
    prime, _, writes, sights = machine
    word = deed[0]
    if word == "get":
        return memory, meet(prime, sights[deed[1]], memory)
    if word == "plus":
        return memory, (hand + meet(prime, sights[deed[1]], memory)) % prime
    if word == "minus":
        return memory, (hand - meet(prime, sights[deed[1]], memory)) % prime
    if word == "add":
        return less(prime, memory, -hand, writes[deed[1]]), hand
    if word == "take":
        return less(prime, memory, hand, writes[deed[1]]), hand
    if word == "put":
        return memory, deed[1]
    return memory, hand


def run(machine, program, inputs, most, memory, strikes):
    """Return what a run says, the word for how it ends, and its ticks.

    Ahead of the says, asks and zeros whose numbers strikes has, counted together from 0, it adds those rows.
    """
    lands = landings(program)
    said = []
    hand = asked = ticks = marks = 0
    place = lands[0]
    while place < len(program) and ticks < most:
        instruction = program[place]
        following = place + 1
        if instruction[0] in MARKS:
            if marks in strikes:
                memory = less(machine[0], memory, -1, strikes[marks])
            marks += 1
        if instruction[0] == "say":
            said.append(hand)
        elif instruction[0] == "ask":
            hand = inputs[asked] if asked < len(inputs) else 0
            asked += 1
        elif instruction[0] == "zero":
            following = instruction[1] if hand == 0 else following
        else:
            memory, hand = done(machine, instruction, memory, hand)
        memory = stirred(machine[0], machine[1], memory)
        place = lands[following]
        ticks += 1
    word = "stopped" if place == len(program) else "running"
    return tuple(said), word, ticks


def run_stirred(machine, program, inputs, most, memory):
    """Return (said, word, ticks) of a run of a kept program that begins with a memory."""
    check_machine(machine)
    check_kept(machine, program)
    check_inputs(machine[0], inputs)
    check_number(most, 0, MOST_TICKS)
    check_memory(machine, memory)
    return run(machine, program, inputs, most, memory, {})


def run_still(prime, values, program, inputs, most):
    """Return (said, word, instructions) of a run of a program on a still memory of noughts."""
    check_prime(prime)
    check_values(values)
    check_program(prime, values, program)
    check_inputs(prime, inputs)
    check_number(most, 0, MOST_TICKS)
    # On a machine that is never stirred, each instruction but go and stop takes one tick.
    return run(still_machine(prime, values), program, inputs, most, (0,) * values, {})
