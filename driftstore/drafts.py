"""Kept programs in the making: at which ticks their deeds stand, and how they are laid out.

The stirring moves the columns in which the values stand, so the deeds for an instruction of the program
depend on the tick of the period at which they begin: its phase. Where several ways lead to an instruction,
waits let them come at the same phase. Waits also put off what hits come ahead of until hits may come.
"""

from driftstore.codes import get_deeds, join_deeds, write_deeds
from driftstore.machines import still, turns
from driftstore.parts import clear_forms
from driftstore.programs import MARKS, SEEING, WRITING, landings, names_met, nexts


class Draft:
    """A kept program that is to carry a program whose used values stand in this way."""

    def __init__(self, stand, program):
        self.stand = stand
        self.machine = stand.machine
        self.program = program
        self.lands = landings(program)
        self.end = len(program)
        self.names = names_met(program)
        self.ticks_of_round = turns(stand.machine)
        self.order = []
        self.phases = {}
        self.deeds = {}
        self.ladders = {}

    def aims(self, place):
        """Return the places where it goes on behind a place: the next one, and a zero's other one."""
        return nexts(self.program, self.lands, place)

    def put_in_order(self, place):
        """Put a place, and ahead of it all that is not there yet and to which it leads, into the order."""
        self.phases[place] = 0
        # The next place comes last, so that it stands right behind this one when the order is turned round.
        for aim in self.aims(place)[::-1]:
            if aim < self.end and aim not in self.phases:
                self.put_in_order(aim)
        self.order.append(place)

    def plan(self):
        """Tell the order, the phases, the deeds, and how many waits must stand ahead of each place."""
        if self.lands[0] < self.end:
            self.put_in_order(self.lands[0])
            self.order = self.order[::-1]
        for at, place in enumerate(self.order):
            if self.program[place][0] in MARKS:
                self.phases[place] = self.stand.open_from(self.phases[place])
            self.deeds[place] = self.deeds_for(self.program[place], self.phases[place] % self.stand.period)
            for aim in self.aims(place):
                if aim in self.order[at + 1:]:
                    self.phases[aim] = max(self.phases[aim], self.behind(place))
        for place in self.order:
            for aim in self.aims(place):
                self.ladders[aim] = max(self.ladders.get(aim, 0), self.waits(place, aim))

    def behind(self, place):
        """Return the tick behind the deeds of a place."""
        return self.phases[place] + len(self.deeds[place])

    def waits(self, place, aim):
        """Return how many waits stand between the deeds of a place and the aim behind them."""
        if aim == self.end:
            return 0
        return (self.phases[aim] - self.behind(place)) % self.stand.period

    def deeds_for(self, instruction, phase):
        """Return the deeds that do at a phase what an instruction does."""
        word = instruction[0]
        if word not in SEEING and word not in WRITING:
            return (instruction,)
        value = self.names.index(instruction[1])
        columns = self.stand.moved(self.stand.columns, phase)
        noise = self.stand.moved(self.stand.noise, phase)
        if word in WRITING:
            words = ("add", "take") if word == "add" else ("take", "add")
            forms = clear_forms(self.machine, noise)
            return write_deeds(self.machine, self.ticks_of_round, forms, columns[value], words)
        wanted = still(len(columns))[value] + (0,) * len(noise)
        if word == "get":
            return get_deeds(self.machine, self.ticks_of_round, columns + noise, wanted)
        words = ("plus", "minus") if word == "plus" else ("minus", "plus")
        return join_deeds(self.machine, self.ticks_of_round, columns + noise, wanted, words)
