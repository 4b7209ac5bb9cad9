"""Sessions: what is said to a desk and what it answers, as a text that can be said again."""

from driftstore.desks import Desk
from driftstore.errors import BadLine, BadString
from driftstore.storetexts import check_string, read_machine, write_machine

PROGRAM = "program "
OF_MACHINE = "| "
SAID = "> "
ANSWERED = "< "


class Session:
    """A desk with the machine of a text, and what has been said to it."""

    def __init__(self, text):
        self.desk = Desk()
        self.desk.take_machine(text)
        self.pairs = []

    def say(self, line):
        """Return what the desk answers to a line, and keep both."""
        check_string(line)
        if "\n" in line:
            raise BadString()
        if line.startswith(PROGRAM):
            answer = self.desk.take_program(line[len(PROGRAM):].replace(":", "\n"))
        else:
            answer = self.desk.say(line)
        self.pairs.append((line, answer))
        return answer

    def text(self):
        """Return the machine's text and all that has been said, line by line."""
        lines = [OF_MACHINE + line for line in write_machine(self.desk.store.machine).split("\n")]
        for line, answer in self.pairs:
            lines.extend([SAID + line, ANSWERED + answer])
        return "\n".join(lines)

    @property
    def log(self):
        """Return the tuple of the pairs of a line and its answer."""
        return tuple(self.pairs)


def machine_lines(lines):
    """Return how many lines at first are those of a machine."""
    many = 0
    while many < len(lines) and lines[many].startswith(OF_MACHINE):
        many += 1
    return many


def pairs_in(lines, first):
    """Return the pairs of a line said and its answer in the lines from one on."""
    pairs = []
    for at in range(first, len(lines), 2):
        if not lines[at].startswith(SAID):
            raise BadLine(at + 1, 1)
        # The line behind the last one is the one that is lacking.
        if at + 1 == len(lines) or not lines[at + 1].startswith(ANSWERED):
            raise BadLine(at + 2, 1)
        pairs.append((lines[at][len(SAID):], lines[at + 1][len(ANSWERED):]))
    return tuple(pairs)


def read_session(text):
    """Return the machine of a session's text, and the tuple of its pairs of a line and its answer."""
    check_string(text)
    lines = text.split("\n")
    many = machine_lines(lines)
    pairs = pairs_in(lines, many)
    machine = read_machine("\n".join([line[len(OF_MACHINE):] for line in lines[:many]]))
    return machine, pairs


def first_unlike(text):
    """Return the place of the first pair whose answer is another one when all is said again, None without one."""
    machine, pairs = read_session(text)
    session = Session(write_machine(machine))
    answers = [session.say(line) for line, _ in pairs]
    for place, answer in enumerate(answers):
        if answer != pairs[place][1]:
            return place
    return None
