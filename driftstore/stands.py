"""Where values stand in a memory that stirs itself and that hits may spoil.

The memory is a sum of multiples of columns, one for each value, of noise, which is what hits may have made,
and of what can never be seen. A hit may come at a tick of the period if it makes nothing but noise there.
"""

from driftstore.codes import apart_columns
from driftstore.fields import facing, less, meet
from driftstore.machines import stirred, stirred_often, turns, undone
from driftstore.parts import clear_forms, closure, reach


def resting_columns(machine, table, noise, many):
    """Return so many columns that a table leaves as they are, but for noise, fewer if there are no more."""
    prime, cells = machine[0], len(machine[1])
    turned = tuple(zip(*table))
    forms = clear_forms(machine, noise)
    changes = tuple([less(prime, stirred(prime, turned, form), 1, form) for form in forms])
    # What meets all that faces the reached ones with 0 is reached.
    far = facing(prime, reach(machine), cells)
    return apart_columns(prime, forms, facing(prime, far + changes, cells), many)


def leaves_room(machine, table, noise, many):
    """Tell whether a table leaves so many values as they are, but for noise."""
    return len(resting_columns(machine, table, noise, many)) == many


def lesser_divisors(number):
    """Return the ascending divisors of a number but for itself."""
    return [k for k in range(1, number) if number % k == 0]


def least_period(machine, hits, many):
    """Return the least period in which so many values can stand, if hits come only where it begins."""
    prime, stir = machine[0], machine[1]
    ticks_of_round = turns(machine)
    for ticks in lesser_divisors(ticks_of_round):
        table = stirred_often(prime, stir, ticks)
        if leaves_room(machine, table, closure(prime, table, hits), many):
            return ticks
    return ticks_of_round


def noise_of_many(machine, hits, period, many):
    """Return the noise of hits that come, evenly over a period, as often as leaves room for so many values."""
    prime, stir = machine[0], machine[1]
    table = stirred_often(prime, stir, period)
    for ticks in lesser_divisors(period):
        noise = closure(prime, stirred_often(prime, stir, ticks), hits)
        if leaves_room(machine, table, noise, many):
            return noise
    return closure(prime, table, hits)


def with_more_noise(machine, hits, period, many, noise):
    """Return noise with that of hits at other ticks of a period, as long as it leaves room for so many values."""
    prime, stir = machine[0], machine[1]
    table = stirred_often(prime, stir, period)
    back = undone(prime, stir)
    forms = clear_forms(machine, noise)
    for _ in range(period):
        hits = tuple([stirred(prime, back, hit) for hit in hits])
        # With no more forms than values there is no room left.
        if len(forms) > many and not meets_none(prime, forms, hits):
            more = closure(prime, table, noise + hits)
            if leaves_room(machine, table, more, many):
                noise = more
                forms = clear_forms(machine, noise)
    return noise


def meets_none(prime, forms, rows):
    """Tell whether all forms meet all rows with 0."""
    return not any([meet(prime, form, row) for form in forms for row in rows])


class Stand:
    """So many values as they stand at each tick of a period, whatever hits have come at its open ticks."""

    def __init__(self, machine, hits, period, noise, many):
        self.machine = machine
        self.period = period
        self.noise = noise
        self.columns = resting_columns(machine, stirred_often(machine[0], machine[1], period), noise, many)
        self.opens = self.open_ticks(hits)

    def open_ticks(self, hits):
        """Return for each tick of the period whether hits make nothing but noise there."""
        prime = self.machine[0]
        forms = clear_forms(self.machine, self.noise)
        back = undone(prime, self.machine[1])
        found = []
        for _ in range(self.period):
            found.append(meets_none(prime, forms, hits))
            hits = [stirred(prime, back, hit) for hit in hits]
        return found

    def open_from(self, tick):
        """Return the first tick from this one on at which hits may come."""
        while not self.opens[tick % self.period]:
            tick += 1
        return tick

    def moved(self, rows, phase):
        """Return rows as the stirring leaves them up to a tick of the period."""
        table = stirred_often(self.machine[0], self.machine[1], phase)
        return tuple([stirred(self.machine[0], table, row) for row in rows])


def stands(machine, hits, many):
    """Return ways in which so many values can stand whatever hits come: with many open ticks, and with little noise.

    The machine must keep so many values despite the hits.
    """
    period = least_period(machine, hits, many)
    least = closure(machine[0], stirred_often(machine[0], machine[1], period), hits)
    most = with_more_noise(machine, hits, period, many, noise_of_many(machine, hits, period, many))
    noises = [most] if most == least else [most, least]
    return [Stand(machine, hits, period, noise, many) for noise in noises]
