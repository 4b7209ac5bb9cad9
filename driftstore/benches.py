"""A machine at work."""

from driftstore.checks import check_number
from driftstore.machines import check_machine, stirred
from driftstore.runs import done


class Store:
    """A machine at work: at first its memory and its hand are 0."""

    def __init__(self, machine):
        check_machine(machine)
        self.machine = machine
        self.memory = (0,) * len(machine[1])
        self.hand = 0
        self.ticks = 0

    def do(self, deed):
        """Do a deed, and let the tick go by."""
        memory, self.hand = done(self.machine, deed, self.memory, self.hand)
        self.memory = stirred(self.machine[0], self.machine[1], memory)
        self.ticks += 1

    def see(self, sight):
        """Have the hand become what a sight meets the memory with, and return it."""
        check_number(sight, 0, len(self.machine[3]) - 1)
        self.do(("get", sight))
        return self.hand

    def join(self, sight, is_taken=False):
        """Add what a sight meets the memory with to the hand, or take it from it."""
        check_number(sight, 0, len(self.machine[3]) - 1)
        self.do(("minus" if is_taken is True else "plus", sight))

    def write(self, plug, is_taken=False):
        """Add the hand times a write to the memory, or take it from it."""
        check_number(plug, 0, len(self.machine[2]) - 1)
        self.do(("take" if is_taken is True else "add", plug))

    def put(self, number):
        """Have the hand become a number."""
        check_number(number, 0, self.machine[0] - 1)
        self.do(("put", number))

    def wait(self):
        """Let a tick go by."""
        self.do(("wait",))

    @property
    def tick(self):
        """Return how many ticks have gone by."""
        return self.ticks

    @property
    def held(self):
        """Return the memory."""
        return self.memory

    @property
    def own(self):
        """Return what the hand holds."""
        return self.hand
