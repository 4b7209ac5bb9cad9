"""Memories, runs and walks tried out one by one, as the document tells them."""

import itertools
import random

from drawing import drawn_machine, unit

MARKS = ("say", "ask", "zero")


def meet(prime, one, other):
    return sum(one[k] * other[k] for k in range(len(one))) % prime


def one_tick(machine, memory):
    return tuple(meet(machine[0], row, memory) for row in machine[1])


def memories(machine):
    return list(itertools.product(range(machine[0]), repeat=len(machine[1])))


def small_machines(seed, many, most):
    """So many drawn machines with at most so many memories."""
    chance = random.Random(seed)
    found = []
    while len(found) < many:
        machine = drawn_machine(chance)
        if machine[0] ** len(machine[1]) <= most:
            found.append(machine)
    return found


def span(prime, rows, width):
    """All sums of multiples of rows."""
    found = {(0,) * width}
    for row in rows:
        found = {tuple((a + k * b) % prime for a, b in zip(old, row)) for old in found for k in range(prime)}
    return found


def reached_tried_out(machine, rows=None):
    """All memories to which deeds with some hands lead nought, tick by tick; with rows in the place of writes."""
    prime, stir = machine[:2]
    found, now = set(), {(0,) * len(stir)}
    while not now <= found:
        found |= now
        written = {
            tuple((a + hand * b) % prime for a, b in zip(memory, write))
            for memory in now for write in rows or machine[2] for hand in range(prime)
        }
        now = {one_tick(machine, memory) for memory in written | now}
    return found


def unseen_tried_out(machine):
    """All memories that no sight meets with another number than 0 until they are as they were."""
    found = set()
    for memory in memories(machine):
        now, is_seen = memory, False
        while True:
            is_seen = is_seen or any(meet(machine[0], sight, now) for sight in machine[3])
            now = one_tick(machine, now)
            if now == memory:
                break
        if not is_seen:
            found.add(memory)
    return found


def forms_tried_out(machine):
    """All sums of multiples of what tells, ahead, what a sight will meet the memory with."""
    prime, stir, _, sights = machine
    rows, now = set(), set(sights)
    while not now <= rows:
        rows |= now
        now = {tuple(sum(row[k] * stir[k][at] for k in range(len(stir))) % prime for at in range(len(stir)))
               for row in now}
    return span(prime, rows, len(stir))


def landing(program, place):
    """The place of the next instruction that takes a tick, None for the end."""
    gone = []
    while place < len(program) and program[place][0] == "go":
        if place in gone:
            return None
        gone.append(place)
        place = program[place][1]
    return None if place == len(program) or program[place][0] == "stop" else place


def run_by_words(machine, program, inputs, most, memory, hits=(), blows=()):
    """A run as points 4 and 14 tell it, word by word."""
    prime, stir, writes, sights = machine
    memory, inputs, hand, ticks, said, marks = list(memory), list(inputs), 0, 0, [], 0
    place = landing(program, 0)
    while place is not None and ticks < most:
        word = program[place][0]
        number = program[place][1] if len(program[place]) == 2 else None
        then = place + 1
        if word in MARKS:
            for mark, hit, factor in blows:
                if mark == marks:
                    memory = [(a + factor * b) % prime for a, b in zip(memory, hits[hit])]
            marks += 1
        if word == "get":
            hand = meet(prime, sights[number], memory)
        elif word == "plus":
            hand = (hand + meet(prime, sights[number], memory)) % prime
        elif word == "minus":
            hand = (hand - meet(prime, sights[number], memory)) % prime
        elif word in ("add", "take"):
            sign = 1 if word == "add" else -1
            memory = [(a + sign * hand * b) % prime for a, b in zip(memory, writes[number])]
        elif word == "put":
            hand = number
        elif word == "say":
            said.append(hand)
        elif word == "ask":
            hand = inputs.pop(0) if inputs else 0
        elif word == "zero" and hand == 0:
            then = number
        memory = [meet(prime, row, memory) for row in stir]
        ticks += 1
        place = landing(program, then)
    return tuple(said), "stopped" if place is None else "running", ticks


def after_deed(machine, deed, memory, hand):
    """Memory and hand behind a tick with a deed or a mark that leaves the hand."""
    prime, stir, writes, sights = machine
    word = deed[0]
    if word in ("get", "plus", "minus"):
        seen = meet(prime, sights[deed[1]], memory)
        hand = {"get": seen, "plus": hand + seen, "minus": hand - seen}[word] % prime
    elif word in ("add", "take"):
        sign = 1 if word == "add" else -1
        memory = tuple((a + sign * hand * b) % prime for a, b in zip(memory, writes[deed[1]]))
    elif word == "put":
        hand = deed[1]
    return tuple(meet(prime, row, memory) for row in stir), hand


def to_mark(machine, program, place, memory, hand):
    """Where the next mark is, with memory and hand there; place -1 for none."""
    passed = set()
    while place < len(program) and program[place][0] != "stop":
        deed = program[place]
        if deed[0] in MARKS:
            return place, memory, hand
        if (place, memory, hand) in passed:
            return -1, (), 0
        passed.add((place, memory, hand))
        if deed[0] == "go":
            place = deed[1]
        else:
            memory, hand = after_deed(machine, deed, memory, hand)
            place += 1
    return -1, (), 0


def ways_on(machine, program, place, memory, hand):
    """The next marks behind a mark, with memory and hand there: one, or two behind a zero."""
    memory, hand = after_deed(machine, program[place], memory, hand)
    places = [place + 1] + ([program[place][1]] if program[place][0] == "zero" else [])
    return [to_mark(machine, program, following, memory, hand) for following in places]


def spoiled(prime, memory, hits):
    """All that hits may make of a memory."""
    return [tuple((a + b) % prime for a, b in zip(memory, row)) for row in span(prime, hits, len(memory))]


def faults_tried_out(machine, values, program, kept, hits=()):
    """The faults, found by walking with all inputs and all hits, one memory at a time."""
    prime = machine[0]
    still = (prime, unit(values), unit(values), unit(values))
    start = (to_mark(still, program, 0, (0,) * values, 0), to_mark(machine, kept, 0, (0,) * len(machine[1]), 0))
    found, met, waiting = set(), {start}, [start]
    while waiting:
        (place, held, hand), (other, memory, other_hand) = waiting.pop()
        word = program[place][0] if place >= 0 else None
        if word != (kept[other][0] if other >= 0 else None):
            found.add((place, other, "unlike"))
            continue
        if word is None:
            continue
        if word != "ask" and hand != other_hand:
            found.add((place, other, "hand"))
        hands = [(number, number) for number in range(prime)] if word == "ask" else [(hand, other_hand)]
        for (one, two), struck in itertools.product(hands, spoiled(prime, memory, hits)):
            for pair in zip(ways_on(still, program, place, held, one), ways_on(machine, kept, other, struck, two)):
                if pair not in met:
                    met.add(pair)
                    waiting.append(pair)
    return tuple(sorted(found))
