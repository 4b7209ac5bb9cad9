"""Walks of a program and of a kept program side by side.

A state is (1, the cells, the hand). Between two marks (says, asks and zeros) deeds and stirring make of it
what a table tells, so walks over all inputs span all states that can stand at a pair of marks.
"""

from driftstore.fields import times, with_row
from driftstore.machines import check_machine, still, still_machine, stirred, stirred_by_both
from driftstore.programs import MARKS, check_kept, check_program, check_values, landings, nexts

NOWHERE = -1


def hand_row(machine, deed):
    """Return the row that meets a state with what the hand is behind a deed."""
    prime, stir, _, sights = machine
    word = deed[0]
    if word == "put":
        return (deed[1],) + (0,) * (len(stir) + 1)
    if word == "get":
        return (0,) + sights[deed[1]] + (0,)
    if word == "plus":
        return (0,) + sights[deed[1]] + (1,)
    if word == "minus":
        return (0,) + times(prime, -1, sights[deed[1]]) + (1,)
    return (0,) * (len(stir) + 1) + (1,)


def cell_rows(machine, deed):
    """Return the rows that meet a state with what the cells are behind a deed, ahead of the stirring."""
    prime, stir, writes, _ = machine
    written = (0,) * len(stir)
    if deed[0] == "add":
        written = writes[deed[1]]
    if deed[0] == "take":
        written = times(prime, -1, writes[deed[1]])
    return [(0,) + row + (number,) for row, number in zip(still(len(stir)), written)]


def tick_table(machine, deed):
    """Return the table by which a tick with a deed changes a state."""
    prime, stir = machine[0], machine[1]
    noughts = (0,) * (len(stir) + 1)
    cells = cell_rows(machine, deed)
    moved = [stirred(prime, tuple(zip(*cells)), row) for row in stir]
    return ((1,) + noughts,) + tuple(moved) + (hand_row(machine, deed),)


class Legs:
    """The legs of walks of one program on its machine: from each mark to the next ones."""

    def __init__(self, machine, program):
        self.machine = machine
        self.program = program
        self.lands = landings(program)
        self.tables = {}
        self.strides = {len(program): (NOWHERE, None)}
        self.known = {}

    def word(self, place):
        """Return the word at a mark, None for nowhere."""
        return None if place == NOWHERE else self.program[place][0]

    def deed_table(self, deed):
        """Return the table of a tick with a deed."""
        if deed not in self.tables:
            self.tables[deed] = tick_table(self.machine, deed)
        return self.tables[deed]

    def stride(self, place):
        """Return the next mark from a place on, and the table by which the deeds up to it change a state."""
        passed = []
        now = place
        while now not in self.strides:
            if self.program[now][0] in MARKS:
                self.strides[now] = (now, still(len(self.machine[1]) + 2))
            else:
                # This holds until a mark is found: deeds that come back to it go nowhere.
                self.strides[now] = (NOWHERE, None)
                passed.append(now)
                now = self.lands[now + 1]
        mark, table = self.strides[now]
        for deed_place in reversed(passed):
            if mark != NOWHERE:
                table = stirred_by_both(self.machine[0], table, self.deed_table(self.program[deed_place]))
            self.strides[deed_place] = (mark, table)
        return self.strides[place]

    def first(self):
        """Return the first mark of all walks, and the state there, all being 0 at first."""
        mark, table = self.stride(self.lands[0])
        state = (1,) + (0,) * (len(self.machine[1]) + 1)
        return mark, self.led(table, state)

    def legs(self, mark):
        """Return the legs from a mark, for each way on: the next mark, and the table up to it."""
        if mark not in self.known:
            found = []
            for place in nexts(self.program, self.lands, mark):
                following, table = self.stride(place)
                if table is not None:
                    table = stirred_by_both(self.machine[0], table, self.deed_table(("wait",)))
                found.append((following, table))
            self.known[mark] = found
        return self.known[mark]

    def led(self, table, state):
        """Return the state to which a table leads; nowhere it does not matter."""
        return state if table is None else stirred(self.machine[0], table, state)


class Walks:
    """All walks of two programs side by side, and the faults that they meet."""

    def __init__(self, one, other, hits):
        self.prime = other.machine[0]
        self.one = one
        self.other = other
        self.hits = hits
        self.width = len(one.machine[1]) + 2
        self.spans = {}
        self.waiting = []
        self.faults = {}

    def arrive(self, pair, state, other_state):
        """Note that walks come to a pair of places with such states."""
        word = self.one.word(pair[0])
        if word != self.other.word(pair[1]):
            self.faults[pair] = "unlike"
        elif word is not None:
            self.strike(pair)
            self.stop_by(pair, word, state, other_state)

    def stop_by(self, pair, word, state, other_state):
        """Note that walks come with such states to a pair of places with the same mark."""
        if word == "ask":
            # Both hands become the same input, whatever they were: 0, or a multiple of 1 more.
            self.note(pair, state[:-1] + (0,) + other_state[:-1] + (0,))
            self.note(pair, (0,) * (len(state) - 1) + (1,) + (0,) * (len(other_state) - 1) + (1,))
            return
        if state[-1] != other_state[-1]:
            self.faults[pair] = "hand"
        self.note(pair, state + other_state)

    def strike(self, pair):
        """Note that hits may come ahead of a pair of places."""
        if pair not in self.spans:
            for hit in self.hits:
                self.note(pair, (0,) * (self.width + 1) + hit + (0,))

    def note(self, pair, states):
        """Have walks go on with states if those noted for this pair do not span them."""
        steps = self.spans.get(pair, ())
        spanned = with_row(self.prime, steps, states)
        if len(spanned) > len(steps):
            self.spans[pair] = spanned
            self.waiting.append((pair, states))

    def walk(self):
        """Walk until nothing new is met."""
        mark, state = self.one.first()
        other_mark, other_state = self.other.first()
        self.arrive((mark, other_mark), state, other_state)
        while self.waiting:
            pair, states = self.waiting.pop()
            state, other_state = states[:self.width], states[self.width:]
            for leg, other_leg in zip(self.one.legs(pair[0]), self.other.legs(pair[1])):
                led = self.one.led(leg[1], state)
                other_led = self.other.led(other_leg[1], other_state)
                self.arrive((leg[0], other_leg[0]), led, other_led)


def faults_met(machine, hits, values, program, kept):
    """Return the ascending tuple of what keeps a kept program from carrying a program whatever hits come."""
    walks = Walks(Legs(still_machine(machine[0], values), program), Legs(machine, kept), hits)
    walks.walk()
    return tuple(sorted([pair + (word,) for pair, word in walks.faults.items()]))


def faults(machine, values, program, kept):
    """Return the ascending tuple of what keeps a kept program from carrying a program."""
    check_machine(machine)
    check_values(values)
    check_program(machine[0], values, program)
    check_kept(machine, kept)
    return faults_met(machine, (), values, program, kept)


def carries(machine, values, program, kept):
    """Return whether a kept program carries a program."""
    return len(faults(machine, values, program, kept)) == 0
