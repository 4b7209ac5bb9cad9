"""Kept programs in the making: at which ticks their deeds stand, and how they are laid out.

The stirring moves the columns in which the values stand, so the deeds for an instruction of the program
depend on the tick of the period at which they begin: its phase. Where several ways lead to an instruction,
waits let them come at the same phase.
"""

from driftstore.codes import apart_columns, get_deeds, join_deeds, write_deeds
from driftstore.fields import facing, less
from driftstore.machines import moved_on, still, stirred, stirred_by_both, turns
from driftstore.parts import looks, reach
from driftstore.programs import SEEING, WRITING, landings, names_met, nexts


def resting(machine, far, table):
    """Return the staircase of the reached memories that a table leaves as they are, to all sights.

    far are the rows that meet all that can be reached with 0.
    """
    prime, cells = machine[0], len(machine[1])
    turned = tuple(zip(*table))
    changes = tuple([less(prime, stirred(prime, turned, look), 1, look) for look in looks(machine)])
    return facing(prime, far + changes, cells)


def resting_columns(machine, ticks_of_round, many):
    """Return a least period, and so many columns that are as they were behind so many ticks.

    What can never be seen is passed over, so the machine must keep so many values.
    """
    prime, stir = machine[0], machine[1]
    far = facing(prime, reach(machine), len(stir))
    table = stir
    for ticks in range(1, ticks_of_round):
        # What is as it was behind some ticks is so behind as many as they have in common with the round.
        if ticks_of_round % ticks == 0:
            columns = apart_columns(prime, looks(machine), resting(machine, far, table), many)
            if len(columns) == many:
                return ticks, columns
        table = stirred_by_both(prime, stir, table)
    return ticks_of_round, apart_columns(prime, looks(machine), reach(machine), many)


class Draft:
    """A kept program that is to carry a program on a machine that keeps enough values."""

    def __init__(self, machine, program):
        self.machine = machine
        self.program = program
        self.lands = landings(program)
        self.end = len(program)
        self.names = names_met(program)
        self.ticks_of_round = turns(machine)
        self.period, self.columns = resting_columns(machine, self.ticks_of_round, len(self.names))
        self.order = []
        self.phases = {}
        self.deeds = {}
        self.ladders = {}

    def aims(self, place):
        """Return the places where it goes on behind a place: the next one, and a zero's other one."""
        return nexts(self.program, self.lands, place)

    def put_in_order(self, place):
        """Put a place, and ahead of it all that is not there yet and to which it leads, into the order."""
        self.phases[place] = 0
        # The next place comes last, so that it stands right behind this one when the order is turned round.
        for aim in self.aims(place)[::-1]:
            if aim < self.end and aim not in self.phases:
                self.put_in_order(aim)
        self.order.append(place)

    def plan(self):
        """Tell the order, the phases, the deeds, and how many waits must stand ahead of each place."""
        if self.lands[0] < self.end:
            self.put_in_order(self.lands[0])
            self.order = self.order[::-1]
        for at, place in enumerate(self.order):
            self.deeds[place] = self.deeds_for(self.program[place], self.phases[place] % self.period)
            for aim in self.aims(place):
                if aim in self.order[at + 1:]:
                    self.phases[aim] = max(self.phases[aim], self.behind(place))
        for place in self.order:
            for aim in self.aims(place):
                self.ladders[aim] = max(self.ladders.get(aim, 0), self.waits(place, aim))

    def behind(self, place):
        """Return the tick behind the deeds of a place."""
        return self.phases[place] + len(self.deeds[place])

    def waits(self, place, aim):
        """Return how many waits stand between the deeds of a place and the aim behind them."""
        if aim == self.end:
            return 0
        return (self.phases[aim] - self.behind(place)) % self.period

    def moved_columns(self, phase):
        """Return the columns as the stirring leaves them up to a phase."""
        prime, stir = self.machine[0], self.machine[1]
        return tuple([moved_on(prime, stir, column, phase) for column in self.columns])

    def deeds_for(self, instruction, phase):
        """Return the deeds that do at a phase what an instruction does."""
        word = instruction[0]
        if word not in SEEING and word not in WRITING:
            return (instruction,)
        columns = self.moved_columns(phase)
        value = self.names.index(instruction[1])
        if word in WRITING:
            words = ("add", "take") if word == "add" else ("take", "add")
            return write_deeds(self.machine, self.ticks_of_round, columns[value], words)
        wanted = still(len(columns))[value]
        if word == "get":
            return get_deeds(self.machine, self.ticks_of_round, columns, wanted)
        words = ("plus", "minus") if word == "plus" else ("minus", "plus")
        return join_deeds(self.machine, self.ticks_of_round, columns, wanted, words)
