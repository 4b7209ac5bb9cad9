"""The texts of machines and of programs."""

from driftstore.checks import is_prime
from driftstore.errors import BadLine, BadString
from driftstore.fields import staircase
from driftstore.machines import MOST_CELLS, MOST_PLUGS, check_machine
from driftstore.programs import KEPT_BARE_WORDS, MOST_KEPT, MOST_VALUES, check_instructions, check_many, most_numbers

MOST_PRIME = 7


def check_string(value):
    """Raise BadString for what is no string."""
    if not isinstance(value, str):
        raise BadString()


def words_of(line):
    """Return the words of a line, which are parted by spaces."""
    return [word for word in line.split(" ") if word]


def number_in(word, most):
    """Return the number from 0 to most that a word tells without needless noughts, None for another word."""
    # Longer words are not asked for their number: Python limits how many digits it reads.
    if len(word) > len(str(most)) or not word.isascii() or not word.isdigit():
        return None
    number = int(word)
    if number > most or str(number) != word:
        return None
    return number


def row_text(row):
    """Return the numbers of a row with spaces between them."""
    return " ".join([str(number) for number in row])


class WordedLines:
    """The lines of a text that have words, read one after another."""

    def __init__(self, text):
        lines = text.split("\n")
        self.end_line = len(lines) + 1
        worded = [(number, words_of(line)) for number, line in enumerate(lines, start=1)]
        self.lines = [(number, words) for number, words in worded if words]
        self.at = 0

    def number(self):
        """Return the number of the line that comes next, that of the line behind the last one at the end."""
        return self.lines[self.at][0] if self.at < len(self.lines) else self.end_line

    def word(self):
        """Return the first word of the line that comes next, None at the end."""
        return self.lines[self.at][1][0] if self.at < len(self.lines) else None

    def read_row(self, most_number, least, most):
        """Return the next line's least to most numbers behind its first word, and go on to the line behind it."""
        line, words = self.lines[self.at]
        numbers = [number_in(word, most_number) for word in words[1:]]
        for count, number in enumerate(numbers):
            if number is None or count == most:
                raise BadLine(line, count + 2)
        if len(numbers) < least:
            raise BadLine(line, len(words) + 1)
        self.at += 1
        return tuple(numbers)

    def read_prime(self):
        """Return the prime of the next line."""
        line = self.number()
        if self.word() != "prime":
            raise BadLine(line, 1)
        words = self.lines[self.at][1]
        # A number that is no prime stands further to the front than one too many.
        if len(words) > 1 and not is_prime(number_in(words[1], MOST_PRIME)):
            raise BadLine(line, 2)
        return self.read_row(MOST_PRIME, 1, 1)[0]

    def read_stir(self, prime):
        """Return the table of the next lines."""
        first = self.number()
        if self.word() != "stir":
            raise BadLine(first, 1)
        rows = [self.read_row(prime - 1, 1, MOST_CELLS)]
        cells = len(rows[0])
        while self.word() == "stir":
            if len(rows) == cells:
                raise BadLine(self.number(), 1)
            rows.append(self.read_row(prime - 1, cells, cells))
        if len(staircase(prime, rows)) < cells:
            raise BadLine(first, 1)
        return tuple(rows)

    def read_plugs(self, first_word, prime, cells):
        """Return the rows of the next lines, which begin with the same word."""
        rows = []
        while self.word() == first_word and len(rows) < MOST_PLUGS:
            rows.append(self.read_row(prime - 1, cells, cells))
        if not rows:
            raise BadLine(self.number(), 1)
        return tuple(rows)

    def read_instruction(self, numbers):
        """Return the instruction of the next line."""
        first_word = self.word()
        if first_word in KEPT_BARE_WORDS:
            return (first_word,) + self.read_row(0, 0, 0)
        if first_word not in numbers:
            raise BadLine(self.number(), 1)
        return (first_word,) + self.read_row(numbers[first_word], 1, 1)


def write_machine(machine):
    """Return the text of a machine."""
    check_machine(machine)
    prime, stir, writes, sights = machine
    lines = [f"prime {prime}"]
    for word, rows in (("stir", stir), ("write", writes), ("see", sights)):
        lines.extend([f"{word} {row_text(row)}" for row in rows])
    return "\n".join(lines)


def read_machine(text):
    """Return the machine of a text."""
    check_string(text)
    lines = WordedLines(text)
    prime = lines.read_prime()
    stir = lines.read_stir(prime)
    writes = lines.read_plugs("write", prime, len(stir))
    sights = lines.read_plugs("see", prime, len(stir))
    if lines.word() is not None:
        raise BadLine(lines.number(), 1)
    return (prime, stir, writes, sights)


def write_program(program):
    """Return the text of a program or a kept program."""
    check_many(program, MOST_KEPT)
    check_instructions(program, most_numbers(MOST_PRIME, MOST_VALUES, MOST_PLUGS, len(program)), KEPT_BARE_WORDS)
    return "\n".join([" ".join([str(part) for part in instruction]) for instruction in program])


def check_aims(lines, program):
    """Raise BadLine for the first line that goes to more than the number of lines with words."""
    for line, instruction in zip(lines, program):
        if instruction[0] in ("zero", "go") and instruction[1] > len(program):
            raise BadLine(line[0], 2)


def read_program(text):
    """Return the program or kept program of a text."""
    check_string(text)
    lines = WordedLines(text)
    if len(lines.lines) > MOST_KEPT:
        raise BadLine(lines.lines[MOST_KEPT][0], 1)
    if not lines.lines:
        raise BadLine(lines.end_line, 1)
    # While lines are read it is not known yet how many there are, so a number may be the most of all.
    numbers = most_numbers(MOST_PRIME, MOST_VALUES, MOST_PLUGS, MOST_KEPT)
    program = tuple([lines.read_instruction(numbers) for _ in range(len(lines.lines))])
    check_aims(lines.lines, program)
    return program
