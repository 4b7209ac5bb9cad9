"""Machines and programs that look like chance and are the same at each run of the tests."""

PRIMES = (2, 3, 5, 7)


def product(prime, one, other):
    """The table that does what the other and then the one does."""
    return tuple(
        tuple(sum(row[k] * other[k][at] for k in range(len(other))) % prime for at in range(len(other[0])))
        for row in one
    )


def unit(cells):
    return tuple(tuple(int(row == column) for column in range(cells)) for row in range(cells))


def drawn_row(chance, prime, width):
    return tuple(chance.randrange(prime) for _ in range(width))


def drawn_turning(chance, prime, cells):
    """A table that can be undone, and the table that undoes it."""
    table, back = unit(cells), unit(cells)
    for _ in range(3 * cells):
        one, other = chance.randrange(cells), chance.randrange(cells)
        factor = chance.randrange(1, prime)
        step, undo = [list(row) for row in unit(cells)], [list(row) for row in unit(cells)]
        if one == other:
            step[one][one], undo[one][one] = factor, pow(factor, -1, prime)
        else:
            step[one][other], undo[one][other] = factor, -factor % prime
        table, back = product(prime, step, table), product(prime, back, undo)
    assert product(prime, table, back) == unit(cells)
    return table, back


def in_parts(chance, prime, sizes):
    """A table of parts that do not touch each other, or only touch the next one."""
    cells = sum(sizes)
    table = [[0] * cells for _ in range(cells)]
    at = 0
    for size in sizes:
        part, _ = drawn_turning(chance, prime, size)
        for row in range(size):
            table[at + row][at:at + size] = part[row]
            if at + size < cells and chance.random() < 0.3:
                table[at + row][at + size] = chance.randrange(prime)
        at += size
    return tuple(tuple(row) for row in table)


def drawn_rows(chance, prime, cells, places):
    """One to three rows with numbers other than 0 at these places alone."""
    return tuple(
        tuple(chance.randrange(prime) if place in places else 0 for place in range(cells))
        for _ in range(chance.choice((1, 1, 2, 3)))
    )


def drawn_machine(chance, primes=PRIMES, most_cells=4):
    """A machine whose parts are partly out of reach or out of sight, seen in another basis."""
    prime = chance.choice(primes)
    cells = chance.randint(1, most_cells)
    sizes = []
    while sum(sizes) < cells:
        sizes.append(chance.randint(1, cells - sum(sizes)))
    stir = in_parts(chance, prime, sizes)
    written = [place for place in range(cells) if chance.random() < 0.7]
    seen = [place for place in range(cells) if chance.random() < 0.7]
    writes = drawn_rows(chance, prime, cells, written)
    sights = drawn_rows(chance, prime, cells, seen)
    turned, back = drawn_turning(chance, prime, cells)
    columns = tuple(zip(*writes))
    return (
        prime,
        product(prime, product(prime, turned, stir), back),
        tuple(zip(*product(prime, turned, columns))),
        product(prime, sights, back),
    )


def drawn_deed(chance, prime, sights, writes):
    word = chance.choice(("get", "plus", "minus", "add", "take", "put"))
    most = {"add": writes, "take": writes, "put": prime}.get(word, sights)
    return (word, chance.randrange(most))


def drawn_instructions(chance, prime, sights, writes, many, bare_words):
    """So many instructions with deeds, marks, gos and stops, and these bare words among them."""
    found = []
    for _ in range(many):
        kind = chance.random()
        if kind < 0.5:
            found.append(drawn_deed(chance, prime, sights, writes))
        elif kind < 0.75:
            found.append((chance.choice(bare_words),))
        elif kind < 0.9:
            found.append(("zero", chance.randint(0, many)))
        elif kind < 0.97:
            found.append(("go", chance.randint(0, many)))
        else:
            found.append(("stop",))
    return tuple(found)


def drawn_program(chance, prime, values, most=20):
    return drawn_instructions(chance, prime, values, values, chance.randint(1, most), ("say", "ask"))


def drawn_kept(chance, machine, most=20):
    prime, _, writes, sights = machine
    many = chance.randint(1, most)
    return drawn_instructions(chance, prime, len(sights), len(writes), many, ("say", "ask", "wait"))


def drawn_hits(chance, machine):
    """One to three rows: noughts, writes and others."""
    cells = len(machine[1])
    kinds = [(0,) * cells, machine[2][0]] + [drawn_row(chance, machine[0], cells) for _ in range(4)]
    return tuple(chance.choice(kinds) for _ in range(chance.choice((1, 1, 2, 3))))
