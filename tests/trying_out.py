"""Walks of a program and a kept program, with all inputs and all memories one by one."""

from drawing import unit

MARKS = ("say", "ask", "zero")


def meet(prime, one, other):
    return sum(one[k] * other[k] for k in range(len(one))) % prime


def after_deed(machine, deed, memory, hand):
    """Memory and hand behind a tick with a deed or a mark that leaves the hand."""
    prime, stir, writes, sights = machine
    word = deed[0]
    if word in ("get", "plus", "minus"):
        seen = meet(prime, sights[deed[1]], memory)
        hand = {"get": seen, "plus": hand + seen, "minus": hand - seen}[word] % prime
    elif word in ("add", "take"):
        sign = 1 if word == "add" else -1
        memory = tuple((a + sign * hand * b) % prime for a, b in zip(memory, writes[deed[1]]))
    elif word == "put":
        hand = deed[1]
    return tuple(meet(prime, row, memory) for row in stir), hand


def to_mark(machine, program, place, memory, hand):
    """Where the next mark is, with memory and hand there; place -1 for none."""
    passed = set()
    while place < len(program) and program[place][0] != "stop":
        deed = program[place]
        if deed[0] in MARKS:
            return place, memory, hand
        if (place, memory, hand) in passed:
            return -1, (), 0
        passed.add((place, memory, hand))
        if deed[0] == "go":
            place = deed[1]
        else:
            memory, hand = after_deed(machine, deed, memory, hand)
            place += 1
    return -1, (), 0


def ways_on(machine, program, place, memory, hand):
    """The next marks behind a mark, with memory and hand there: one, or two behind a zero."""
    memory, hand = after_deed(machine, program[place], memory, hand)
    places = [place + 1] + ([program[place][1]] if program[place][0] == "zero" else [])
    return [to_mark(machine, program, following, memory, hand) for following in places]


def faults_tried_out(machine, values, program, kept):
    """The faults, found by walking with all inputs, one memory at a time."""
    prime = machine[0]
    still = (prime, unit(values), unit(values), unit(values))
    start = (to_mark(still, program, 0, (0,) * values, 0), to_mark(machine, kept, 0, (0,) * len(machine[1]), 0))
    found, met, waiting = set(), {start}, [start]
    while waiting:
        (place, held, hand), (other, memory, other_hand) = waiting.pop()
        word = program[place][0] if place >= 0 else None
        if word != (kept[other][0] if other >= 0 else None):
            found.add((place, other, "unlike"))
            continue
        if word is None:
            continue
        if word != "ask" and hand != other_hand:
            found.add((place, other, "hand"))
        for number in range(prime) if word == "ask" else (None,):
            if word == "ask":
                hand = other_hand = number
            for pair in zip(ways_on(still, program, place, held, hand),
                            ways_on(machine, kept, other, memory, other_hand)):
                if pair not in met:
                    met.add(pair)
                    waiting.append(pair)
    return tuple(sorted(found))
