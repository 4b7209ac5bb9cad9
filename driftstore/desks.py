"""A desk that answers lines of words about a machine."""

from driftstore.benches import Store
from driftstore.errors import BadNumber, NoWay
from driftstore.machines import turns
from driftstore.parts import keeps, lost, reached, unseen
from driftstore.programs import MOST_VALUES, check_program
from driftstore.storetexts import number_in, read_machine, read_program, row_text, words_of, write_program
from driftstore.writing import kept

NUMBER_WORDS = ("see", "join", "part", "add", "take", "put")
BARE_WORDS = ("wait", "tick", "hand", "held", "keeps", "round", "reached", "unseen", "lost", "kept")
# No deed of any machine has a larger number.
MOST_OF_DEEDS = 6


def rows_text(rows):
    """Return rows with a semicolon and a space between them, a dash for none."""
    return "; ".join([row_text(row) for row in rows]) or "-"


def machine_answer(machine, word):
    """Return what a desk answers to a word about its machine, however it is at work."""
    if word == "keeps":
        return str(keeps(machine))
    if word == "round":
        return str(turns(machine))
    if word == "reached":
        return rows_text(reached(machine))
    if word == "unseen":
        return rows_text(unseen(machine))
    return rows_text(lost(machine))


class Desk:
    """A desk with a machine at work and a program, at first without either."""

    def __init__(self):
        self.store = None
        self.program = None

    def take_machine(self, text):
        """Take the machine of a text, at tick 0, and no program."""
        self.store = Store(read_machine(text))
        self.program = None

    def take_program(self, text):
        """Take the program of a text, and answer that it is taken."""
        program = read_program(text)
        if self.store is None:
            return "no machine"
        check_program(self.store.machine[0], MOST_VALUES, program)
        self.program = program
        return "taken"

    def say(self, line):
        """Answer a line of words."""
        words = words_of(line) if isinstance(line, str) else []
        is_deed = len(words) == 2 and words[0] in NUMBER_WORDS
        if not is_deed and not (len(words) == 1 and words[0] in BARE_WORDS):
            return "what"
        if self.store is None:
            return "no machine"
        if is_deed:
            return self.deed_answer(words[0], number_in(words[1], MOST_OF_DEEDS))
        return self.bare_answer(words[0])

    def deed_answer(self, word, number):
        """Do what a word with a number says, and answer."""
        try:
            if word == "see":
                return str(self.store.see(number))
            self.do(word, number)
        except BadNumber:
            return "no such number"
        return "done"

    def do(self, word, number):
        """Do what a word with a number says."""
        if word == "join":
            self.store.join(number)
        elif word == "part":
            self.store.join(number, True)
        elif word == "add":
            self.store.write(number)
        elif word == "take":
            self.store.write(number, True)
        else:
            self.store.put(number)

    def bare_answer(self, word):
        """Answer a word without a number."""
        if word == "wait":
            self.store.wait()
            return "done"
        if word == "tick":
            return str(self.store.tick)
        if word == "hand":
            return str(self.store.own)
        if word == "held":
            return row_text(self.store.held)
        if word == "kept":
            return self.kept_answer()
        return machine_answer(self.store.machine, word)

    def kept_answer(self):
        """Answer with the text of a kept program that carries the program."""
        if self.program is None:
            return "no program"
        try:
            found = kept(self.store.machine, MOST_VALUES, self.program)
        except NoWay:
            return "no way"
        return write_program(found).replace("\n", "; ")
